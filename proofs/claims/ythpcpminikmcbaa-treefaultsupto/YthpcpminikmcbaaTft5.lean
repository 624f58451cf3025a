import Derived.Test.YthpcpminikmcbaaTft2
import Derived.Deep.AppendLies
import Derived.Test.YthpcpminikmcbaaTft4
import Derived.Test.YthpcpminikmcbaaTft3
namespace Go.Proofs.Ythpcpminikmcbaa.vl
open Go.ChangeShapes Go.WideShapes Go.ChangeAt Go.RowKit
set_option linter.unusedVariables false
set_option linter.unusedSimpArgs false
/-- a list of things that are owned, each in so many cells -/
def OwL {E : Type} (Ow : World → E → List Value → List Nat → Prop) (w : World) : List E → List (List Value) → List Nat → Prop
  | [], xss, G => xss = [] ∧ G = []
  | v :: r, xss, G => ∃ cs l G1 G2, xss = cs :: l ∧ Ow w v cs G1 ∧ OwL Ow w r l G2 ∧ G = G1 ++ G2
theorem OwL.snoc {E : Type} {Ow : World → E → List Value → List Nat → Prop} {w : World} {v : E} {cs : List Value} {G' : List Nat} (hv : Ow w v cs G') : ∀ {l : List E} {xss : List (List Value)} {G : List Nat}, OwL Ow w l xss G → OwL Ow w (l ++ [v]) (xss ++ [cs]) (G ++ G')
  | [], xss, G, h => by
    obtain ⟨rfl, rfl⟩ := h
    exact ⟨cs, [], G', [], rfl, hv, ⟨rfl, rfl⟩, by simp⟩
  | u :: r, xss, G, h => by
    obtain ⟨ds, l, G1, G2, rfl, h1, h2, rfl⟩ := h
    exact ⟨ds, l ++ [cs], G1, G2 ++ G', rfl, h1, OwL.snoc hv h2, by simp⟩
theorem OwL.agree {E : Type} {Ow : World → E → List Value → List Nat → Prop} (ha : ∀ w w' e cs F, Agree F w w' → Ow w e cs F → Ow w' e cs F) {w w' : World} : ∀ {l : List E} {xss : List (List Value)} {G : List Nat}, Agree G w w' → OwL Ow w l xss G → OwL Ow w' l xss G
  | [], xss, G, hg, h => h
  | u :: r, xss, G, hg, h => by
    obtain ⟨ds, l, G1, G2, rfl, h1, h2, rfl⟩ := h
    exact ⟨ds, l, G1, G2, rfl, ha w w' u ds G1 hg.left h1, OwL.agree ha hg.right h2, rfl⟩
/-- a list that grows by append -/
structure Grow {E : Type} (Ow : World → E → List Value → List Nat → Prop) (t : TypeId) (size : Nat) (w : World) (B : Nat) (l : List E) (sl : Value) (G : List Nat) : Prop where
  nodup : G.Nodup
  rng : ∀ b ∈ G, B ≤ b ∧ b < w.heap.size
  own : ∀ b ∈ G, sl.ownBlock ≠ some b
  fz : Fz w G
  row : ∃ xss, w.ownsRow B t size sl l.length xss.flatten ∧ OwL Ow w l xss G
theorem Grow.nil {E : Type} {Ow : World → E → List Value → List Nat → Prop} {t : TypeId} {size : Nat} {w : World} {B : Nat} : Grow Ow t size w B [] (.slice none 0 0) [] :=
  ⟨List.nodup_nil, by simp, by simp, fun b hb => by simp at hb, [], ⟨by simp, .inl ⟨rfl, rfl⟩⟩, rfl, rfl⟩
theorem cell_blk {w w' : World} {b : Nat} (h : w'.heap[b]? = w.heap[b]?) (j : Nat) : w'.cell? ⟨b, j, none⟩ = w.cell? ⟨b, j, none⟩ := World.cell?_of_block (w := w) (a := ⟨b, j, none⟩) h
theorem frozen_blk {w w' : World} {b : Nat} (h : w'.heap[b]? = w.heap[b]?) (j : Nat) : w'.frozen? ⟨b, j, none⟩ = w.frozen? ⟨b, j, none⟩ := World.frozen?_of_block (w := w) (a := ⟨b, j, none⟩) h
theorem Grow.keep {E : Type} {Ow : World → E → List Value → List Nat → Prop} (ha : ∀ w w' e cs F, Agree F w w' → Ow w e cs F → Ow w' e cs F) {t : TypeId} {size : Nat} {w w' : World} {B : Nat} {l : List E} {sl : Value} {G : List Nat} (h : Grow Ow t size w B l sl G) (hs : w.heap.size ≤ w'.heap.size)
    (hb : ∀ b, b < w.heap.size → B ≤ b → (b ∈ G ∨ sl.ownBlock = some b) → w'.heap[b]? = w.heap[b]?) : Grow Ow t size w' B l sl G := by
  obtain ⟨xss, hr, hl⟩ := h.row
  have hG : ∀ b ∈ G, w'.heap[b]? = w.heap[b]? := fun b hm => hb b (h.rng b hm).2 (h.rng b hm).1 (.inl hm)
  refine ⟨h.nodup, fun b hm => ⟨(h.rng b hm).1, Nat.lt_of_lt_of_le (h.rng b hm).2 hs⟩, h.own, fun b hm j => (frozen_blk (hG b hm) j).trans (h.fz b hm j), xss, ?_, OwL.agree ha (fun b hm j => cell_blk (hG b hm) j) hl⟩
  have hlt := hr.lt
  obtain ⟨h1, h2⟩ := hr
  refine ⟨h1, ?_⟩
  rcases h2 with h2 | ⟨g, cap, cur, hv, hg, hh, r⟩
  · exact .inl h2
  · have hob : sl.ownBlock = some g := by rw [hv]; rfl
    exact .inr ⟨g, cap, cur, hv, hg, (hb g (hlt g hob).2 hg (.inr hob)).trans hh, r⟩
theorem Grow.below {E : Type} {Ow : World → E → List Value → List Nat → Prop} (ha : ∀ w w' e cs F, Agree F w w' → Ow w e cs F → Ow w' e cs F) {t : TypeId} {size : Nat} {w w' : World} {B : Nat} {l : List E} {sl : Value} {G : List Nat} (h : Grow Ow t size w B l sl G) (hb : Below w.heap.size w w') : Grow Ow t size w' B l sl G :=
  h.keep ha hb.size (fun b hl _ _ => hb.block b hl)
/-- a write outside -/
theorem heap_setCells (b : Nat) (c : Nat) (h : c ≠ b) : ∀ (vs : List Value) (o : Nat) (w : World), (w.setCells b o vs).heap[c]? = w.heap[c]?
  | [], o, w => rfl
  | v :: r, o, w => by rw [World.setCells, heap_setCells b c h r (o + 1)]; exact Below.heap_setCell w ⟨b, o, none⟩ v c h
theorem Grow.setCells {E : Type} {Ow : World → E → List Value → List Nat → Prop} (ha : ∀ w w' e cs F, Agree F w w' → Ow w e cs F → Ow w' e cs F) {t : TypeId} {size : Nat} {w : World} {B : Nat} {l : List E} {sl : Value} {G : List Nat} (h : Grow Ow t size w B l sl G) (b o : Nat) (vs : List Value) (hb : b < B) : Grow Ow t size (w.setCells b o vs) B l sl G :=
  h.keep ha (by rw [size_setCells]; exact Nat.le_refl _) (fun c _ hc _ => heap_setCells b c (by omega) vs o w)
/-- one more -/
theorem wpO_grow {E : Type} {Ow : World → E → List Value → List Nat → Prop} (ha : ∀ w w' e cs F, Agree F w w' → Ow w e cs F → Ow w' e cs F) {P : Program} {t e : TypeId} {size bytes : Nat} {i : TypeInfo} {z : Value} {w : World} {o : Oper} {a : Act} {K : Act → World → Prop} {Q : Exit → Act → World → Prop} (s x : Operand)
    (ho : o.op = .call { callee := .builtin .append, args := #[s, x], argTypes := #[t, t] }) (ht : P.underlying t = some (.slice e)) (hi : P.info? e = some i) (hz : i.zero = some z)
    (hsize : i.size = size) (hby : i.bytes = bytes) (hzs : z.cells.size = size) (hsz : 0 < size)
    (B : Nat) (l : List E) (sl : Value) (G : List Nat) (hs : a.eval s = sl) (hg : Grow Ow e size w B l sl G) (v : E) (ds : List Value) (G' : List Nat) (hv : Ow w v ds G') (hl : ds.length = size) (h1 : ∀ u ∈ ds, u.oneCell' = true)
    (hn' : G'.Nodup) (hr' : ∀ b ∈ G', B ≤ b ∧ b < w.heap.size ∧ b ∉ G ∧ sl.ownBlock ≠ some b) (hf' : Fz w G') (N : Nat) (hN : N = w.heap.size) (hx : a.eval x = .slice (some ⟨N, 0, none⟩) 1 1) (hbytes : (l.length + 1) * bytes ≤ 140737488355328) (h63 : l.length + 1 ≤ maxLen) (hB : B ≤ w.heap.size)
    (h : ∀ sl' w', Grow Ow e size w' B (l ++ [v]) sl' (G ++ G') → Below B w w' → (∀ b, b < w.heap.size → sl.ownBlock ≠ some b → w'.heap[b]? = w.heap[b]?) → K (a.put o.dst sl') w') : o.wp P a (w.alloc (.cells ds.toArray e)) K Q := by
  subst hN
  obtain ⟨xss, hrow, hol⟩ := hg.row
  refine wp_append_lies _ s x t ho B e i z size bytes ht hi hz hsize hby hzs hsz sl l.length xss.flatten hs (World.ownsRow.alloc hrow _) ⟨w.heap.size, 0, none⟩ 1 1 ds hx (by rw [hl]; omega) (fun j u hu => by
    rw [Addr.add_mid, Nat.zero_add, World.cell?_alloc_at _ _ _ _ rfl]; simpa using hu) h1 (by omega) h63 hbytes (by simp; omega) (w.heap.size + 1) (by simp) ?_
  intro g cap w' hrow' hgr hat hlt
  have hold : ∀ b, b < w.heap.size → sl.ownBlock ≠ some b → w'.heap[b]? = w.heap[b]? := fun b hb hne => by
    rw [hgr.block b (by simp; omega) (fun e => hne e.symm)]
    exact Below.heap_alloc w _ b hb
  have hsz' : w.heap.size ≤ w'.heap.size := by have := hgr.size; simp at this; omega
  refine h _ w' ⟨?_, ?_, ?_, ?_, xss ++ [ds], ?_, ?_⟩ (((Below.refl _ _).alloc hB _).grown hgr (by simp; omega) (fun k hk => (hrow.lt k hk).1)) hold
  · rw [List.nodup_append]
    exact ⟨hg.nodup, hn', fun x hx y hy e => (hr' y hy).2.2.1 (e ▸ hx)⟩
  · intro b hb
    rcases List.mem_append.1 hb with hb | hb
    · exact ⟨(hg.rng b hb).1, Nat.lt_of_lt_of_le (hg.rng b hb).2 hsz'⟩
    · exact ⟨(hr' b hb).1, Nat.lt_of_lt_of_le (hr' b hb).2.1 hsz'⟩
  · intro b hb e
    have hgb : g = b := Option.some.inj e
    subst hgb
    have hlt' : g < w.heap.size := by
      rcases List.mem_append.1 hb with hb | hb
      · exact (hg.rng g hb).2
      · exact (hr' g hb).2.1
    rcases hat with hat | hat
    · rcases List.mem_append.1 hb with hb | hb
      · exact hg.own g hb hat
      · exact (hr' g hb).2.2.2 hat
    · omega
  · intro b hb j
    rcases List.mem_append.1 hb with hb | hb
    · exact (frozen_blk (hold b (hg.rng b hb).2 (hg.own b hb)) j).trans (hg.fz b hb j)
    · exact (frozen_blk (hold b (hr' b hb).2.1 (hr' b hb).2.2.2) j).trans (hf' b hb j)
  · simpa using hrow'
  · refine OwL.agree ha (fun b hb j => ?_) (OwL.snoc hv hol)
    rcases List.mem_append.1 hb with hb | hb
    · exact cell_blk (hold b (hg.rng b hb).2 (hg.own b hb)) j
    · exact cell_blk (hold b (hr' b hb).2.1 (hr' b hb).2.2.2) j
theorem wp_grow {E : Type} {Ow : World → E → List Value → List Nat → Prop} (ha : ∀ w w' e cs F, Agree F w w' → Ow w e cs F → Ow w' e cs F) {P : Program} {t e : TypeId} {size bytes : Nat} {i : TypeInfo} {z : Value} {w : World} {ops : Array Oper} {rest : List Oper} {o : Oper} {a : Act} {Q : Exit → Act → World → Prop} (hgd : o.guard = none) (s x : Operand)
    (ho : o.op = .call { callee := .builtin .append, args := #[s, x], argTypes := #[t, t] }) (ht : P.underlying t = some (.slice e)) (hi : P.info? e = some i) (hz : i.zero = some z)
    (hsize : i.size = size) (hby : i.bytes = bytes) (hzs : z.cells.size = size) (hsz : 0 < size)
    (B : Nat) (l : List E) (sl : Value) (G : List Nat) (hs : a.eval s = sl) (hg : Grow Ow e size w B l sl G) (v : E) (ds : List Value) (G' : List Nat) (hv : Ow w v ds G') (hl : ds.length = size) (h1 : ∀ u ∈ ds, u.oneCell' = true)
    (hn' : G'.Nodup) (hr' : ∀ b ∈ G', B ≤ b ∧ b < w.heap.size ∧ b ∉ G ∧ sl.ownBlock ≠ some b) (hf' : Fz w G') (N : Nat) (hN : N = w.heap.size) (hx : a.eval x = .slice (some ⟨N, 0, none⟩) 1 1) (hbytes : (l.length + 1) * bytes ≤ 140737488355328) (h63 : l.length + 1 ≤ maxLen) (hB : B ≤ w.heap.size)
    (h : ∀ sl' w', Grow Ow e size w' B (l ++ [v]) sl' (G ++ G') → Below B w w' → wpList P ops Q rest (a.put o.dst sl') w') : wpList P ops Q (o :: rest) a (w.alloc (.cells ds.toArray e)) :=
  wpList_plain hgd fun _ hK => wpO_grow ha s x ho ht hi hz hsize hby hzs hsz B l sl G hs hg v ds G' hv hl h1 hn' hr' hf' N hN hx hbytes h63 hB fun sl' w' g b _ => hK _ _ (h sl' w' g b)
end Go.Proofs.Ythpcpminikmcbaa.vl
namespace Go.Proofs.Ythpcpminikmcbaa.vl
open Go.ChangeShapes Go.WideShapes Go.ChangeAt Go.RowKit
set_option linter.unusedVariables false
set_option linter.unusedSimpArgs false
/-- a member that is owned -/
def OwM (w : World) (q : ByteArray × Vl) (cs : List Value) (F : List Nat) : Prop := ∃ ds, cs = Value.string q.1 :: ds ∧ q.1.size ≤ maxLen ∧ OwC w q.2 ds F
theorem agV : ∀ (w w' : World) (e : Vl) (cs : List Value) (F : List Nat), Agree F w w' → OwC w e cs F → OwC w' e cs F := fun _ _ e cs F ha h => OwC.agree e cs F ha h
theorem agM : ∀ (w w' : World) (e : ByteArray × Vl) (cs : List Value) (F : List Nat), Agree F w w' → OwM w e cs F → OwM w' e cs F := fun _ _ e cs F ha ⟨ds, h1, h2, h3⟩ => ⟨ds, h1, h2, OwC.agree e.2 ds F ha h3⟩
theorem OwL.insV {w : World} : ∀ {l : List Vl} {xss : List (List Value)} {G : List Nat} (p off : Nat), OwL OwC w l xss G → (∀ j u, xss.flatten[j]? = some u → w.cell? ⟨p, off + j, none⟩ = some u) → OwsIn w (Vls.of l) p off l.length G
  | [], xss, G, p, off, h, hc => by
    obtain ⟨rfl, rfl⟩ := h
    simp only [Vls.of]
    unfold OwsIn
    exact ⟨rfl, rfl⟩
  | v :: r, xss, G, p, off, h, hc => by
    obtain ⟨cs, l, G1, G2, rfl, h1, h2, rfl⟩ := h
    have h8 := (OwC.read v cs G1 h1).cells
    simp only [Vls.of]
    unfold OwsIn
    refine ⟨r.length, cs, G1, G2, rfl, fun j u hu => hc j u ?_, h1, OwL.insV p (off + 8) h2 (fun j u hu => ?_), rfl⟩
    · rw [List.flatten_cons, List.getElem?_append_left (List.getElem?_eq_some_iff.1 hu).1]; exact hu
    · rw [show off + 8 + j = off + (8 + j) by omega]
      refine hc (8 + j) u ?_
      rw [List.flatten_cons, List.getElem?_append_right (by omega), h8]
      simpa using hu
theorem OwL.insM {w : World} : ∀ {l : List (ByteArray × Vl)} {xss : List (List Value)} {G : List Nat} (p off : Nat), OwL OwM w l xss G → (∀ j u, xss.flatten[j]? = some u → w.cell? ⟨p, off + j, none⟩ = some u) → OwfIn w (Fls.of l) p off l.length G
  | [], xss, G, p, off, h, hc => by
    obtain ⟨rfl, rfl⟩ := h
    simp only [Fls.of]
    unfold OwfIn
    exact ⟨rfl, rfl⟩
  | q :: r, xss, G, p, off, h, hc => by
    obtain ⟨cs, l, G1, G2, rfl, ⟨ds, rfl, hz, h1⟩, h2, rfl⟩ := h
    have h8 := (OwC.read q.2 ds G1 h1).cells
    simp only [Fls.of]
    unfold OwfIn
    refine ⟨r.length, ds, G1, G2, rfl, ?_, hz, fun j u hu => ?_, h1, OwL.insM p (off + 9) h2 (fun j u hu => ?_), rfl⟩
    · exact hc 0 _ rfl
    · rw [show off + 1 + j = off + (j + 1) by omega]
      refine hc (j + 1) u ?_
      rw [List.flatten_cons, List.getElem?_append_left (by have := (List.getElem?_eq_some_iff.1 hu).1; simp; omega)]
      simpa using hu
    · rw [show off + 9 + j = off + (9 + j) by omega]
      refine hc (9 + j) u ?_
      rw [List.flatten_cons, List.getElem?_append_right (by simp; omega)]
      simpa [h8] using hu
theorem Grow.parts {E : Type} {Ow : World → E → List Value → List Nat → Prop} {t : TypeId} {size : Nat} {w : World} {B : Nat} {l : List E} {sl : Value} {G : List Nat} (h : Grow Ow t size w B l sl G) :
    ∃ (aj : Option Addr) (cj : Nat) (F : List Nat), sl = .slice aj l.length cj ∧ ((aj = none ∧ l = [] ∧ l.length = 0 ∧ F = []) ∨ ∃ p xss, aj = some ⟨p, 0, none⟩ ∧ F = p :: G ∧ OwL Ow w l xss G ∧ ∀ j u, xss.flatten[j]? = some u → w.cell? ⟨p, 0 + j, none⟩ = some u) ∧ F.Nodup ∧ (∀ b ∈ F, B ≤ b ∧ b < w.heap.size) ∧ Fz w F ∧ l.length ≤ cj ∧ (aj = none → cj = 0) ∧ cj ≤ maxLen := by
  obtain ⟨xss, hr, hl⟩ := h.row
  have hlt := hr.lt
  have hr' := hr
  obtain ⟨h1, h2⟩ := hr
  rcases h2 with ⟨rfl, h0⟩ | ⟨g, cap, cur, rfl, hg, hh, hc1, hc2, r⟩
  · have hl0 : l = [] := List.length_eq_zero_iff.1 h0
    subst hl0
    exact ⟨none, 0, [], rfl, .inl ⟨rfl, rfl, rfl, rfl⟩, List.nodup_nil, by simp, fun b hb => by simp at hb, Nat.le_refl _, fun _ => rfl, Nat.zero_le _⟩
  · have hgl := hlt g rfl
    refine ⟨_, cap, g :: G, rfl, .inr ⟨g, xss, rfl, rfl, hl, fun j u hu => ?_⟩, List.nodup_cons.2 ⟨fun hm => h.own g hm rfl, h.nodup⟩, fun b hb => ?_, fun b hb j => ?_, hc1, fun e => (by cases e), hc2⟩
    · rw [Nat.zero_add, hr'.cellAt j (by rw [← h1]; exact (List.getElem?_eq_some_iff.1 hu).1)]
      exact hu
    · rcases List.mem_cons.1 hb with rfl | hb
      · exact hgl
      · exact h.rng b hb
    · rcases List.mem_cons.1 hb with rfl | hb
      · exact hr'.frozenAt j
      · exact h.fz b hb j
theorem Grow.form {E : Type} {Ow : World → E → List Value → List Nat → Prop} {t : TypeId} {size : Nat} {w : World} {B : Nat} {l : List E} {sl : Value} {G : List Nat} (h : Grow Ow t size w B l sl G) : ∃ aj n cj, sl = .slice aj n cj := by
  obtain ⟨aj, cj, _, h, _⟩ := h.parts
  exact ⟨aj, _, cj, h⟩
theorem buildV {w0 : World} {v : Vl} {ds : List Value} (h : VlC w0 v ds) (w : World) : (Instr.buildSlice 24 1 #[(0, .agg ds.toArray)]).run Try.prog w = .ok (.slice (some ⟨w.heap.size, 0, none⟩) 1 1) (w.alloc (.cells ds.toArray 27)) := by
  cases v
  unfold VlC at h
  obtain ⟨_, _, _, _, _, _, rfl, -⟩ := h
  go_simp
theorem buildM {w0 : World} {v : Vl} {ds : List Value} (nm : ByteArray) (h : VlC w0 v ds) (w : World) : (Instr.buildSlice 25 1 #[(0, .agg (Value.string nm :: ds).toArray)]).run Try.prog w = .ok (.slice (some ⟨w.heap.size, 0, none⟩) 1 1) (w.alloc (.cells (Value.string nm :: ds).toArray 69)) := by
  cases v
  unfold VlC at h
  obtain ⟨_, _, _, _, _, _, rfl, -⟩ := h
  go_simp
theorem wpO_buildOne {P : Program} {o : Oper} {a : Act} {w w' : World} {K : Act → World → Prop} {Q : Exit → Act → World → Prop} (t : TypeId) (x : Operand) (ho : o.op = .buildSlice t 1 #[(0, x)]) (v sl : Value) (hx : a.eval x = v) (hr : (Instr.buildSlice t 1 #[(0, v)]).run P w = .ok sl w')
    (h : K (a.put o.dst sl) w') : o.wp P a w K Q := by
  unfold Oper.wp execOp
  simp only [ho, List.map_toArray, List.map_cons, List.map_nil, hx, Sem.run_bind, hr, Result.andThen_ok, Sem.run_pure]
  exact h
theorem wpList_buildOne {P : Program} {ops : Array Oper} {rest : List Oper} {o : Oper} {a : Act} {w w' : World} {Q : Exit → Act → World → Prop} (hgd : o.guard = none) (t : TypeId) (x : Operand) (ho : o.op = .buildSlice t 1 #[(0, x)]) (v sl : Value) (hx : a.eval x = v) (hr : (Instr.buildSlice t 1 #[(0, v)]).run P w = .ok sl w')
    (h : wpList P ops Q rest (a.put o.dst sl) w') : wpList P ops Q (o :: rest) a w :=
  wpList_plain hgd fun _ hK => by
    unfold Oper.wp execOp
    simp only [ho, List.map_toArray, List.map_cons, List.map_nil, hx, Sem.run_bind, hr, Result.andThen_ok, Sem.run_pure]
    exact hK _ _ h
end Go.Proofs.Ythpcpminikmcbaa.vl
namespace Go.Proofs.Ythpcpminikmcbaa.vl
open Go.ChangeShapes Go.WideShapes Go.ChangeAt Go.RowKit
set_option linter.unusedVariables false
set_option linter.unusedSimpArgs false
theorem storeF (f : Nat) (a : Addr) (w : World) (m : Mode) : (store a (.float .f64 f) m).run Try.prog w = stored Try.prog w a (.float .f64 f) m := run_store _ _ _ _ _ rfl
def RCopyAt (v : Vl) : Prop := ∀ (cs : List Value) (w : World), VlC w v cs → Calls Try.prog 52 #[.agg cs.toArray] w fun e w' => ∃ (ds : List Value) (F : List Nat), e = .returned (.agg ds.toArray) ∧ OwC w' v ds F ∧ F.Nodup ∧ (∀ b ∈ F, w.heap.size ≤ b ∧ b < w'.heap.size) ∧ Below w.heap.size w w' ∧ Fz w' F
/-- the call's own variables: v's two lists, the result, and w -/
structure Vars (w0 : World) (kd : Int) (bb : Bool) (ni : Int) (f : Nat) (tx ty : ByteArray) (ai : Option Addr) (nI ci : Nat) (af : Option Addr) (nf cf : Nat) (s6 s7 : Value) (w : World) : Prop where
  x6 : w.cell? ⟨w0.heap.size, 6, none⟩ = some (.slice ai nI ci)
  x7 : w.cell? ⟨w0.heap.size, 7, none⟩ = some (.slice af nf cf)
  res : w.there (w0.heap.size + 1) 0 8
  row : w.rangeAt (w0.heap.size + 1 + 1) 0 [.int .i64 kd, .bool bb, .int .i64 ni, .float .f64 f, .string tx, .string ty, s6, s7]
  may : w.there (w0.heap.size + 1 + 1) 0 8
  bel : Below w0.heap.size w0 w
  siz : w0.heap.size + 3 ≤ w.heap.size
theorem Vars.below {w0 : World} {kd : Int} {bb : Bool} {ni : Int} {f : Nat} {tx ty : ByteArray} {ai : Option Addr} {nI ci : Nat} {af : Option Addr} {nf cf : Nat} {s6 s7 : Value} {w w' : World} (h : Vars w0 kd bb ni f tx ty ai nI ci af nf cf s6 s7 w) (hb : Below (w0.heap.size + 3) w w') : Vars w0 kd bb ni f tx ty ai nI ci af nf cf s6 s7 w' :=
  ⟨(hb.cell (p := ⟨w0.heap.size, 6, none⟩) (by show w0.heap.size < _; omega)).trans h.x6, (hb.cell (p := ⟨w0.heap.size, 7, none⟩) (by show w0.heap.size < _; omega)).trans h.x7, there_below h.res hb (by omega), fun j u hu => (hb.cell (p := ⟨w0.heap.size + 1 + 1, 0 + j, none⟩) (by show w0.heap.size + 1 + 1 < _; omega)).trans (h.row j u hu), there_below h.may hb (by omega), h.bel.trans (hb.mono (by omega)), Nat.le_trans h.siz hb.size⟩
theorem Vars.put6 {w0 : World} {kd : Int} {bb : Bool} {ni : Int} {f : Nat} {tx ty : ByteArray} {ai : Option Addr} {nI ci : Nat} {af : Option Addr} {nf cf : Nat} {s6 s7 : Value} {w : World} (h : Vars w0 kd bb ni f tx ty ai nI ci af nf cf s6 s7 w) (s : Value) : Vars w0 kd bb ni f tx ty ai nI ci af nf cf s s7 (w.setCells (w0.heap.size + 1 + 1) 6 [s]) := by
  have out : ∀ c j, (c ≠ w0.heap.size + 1 + 1 ∨ j ≠ 6) → (w.setCells (w0.heap.size + 1 + 1) 6 [s]).cell? ⟨c, j, none⟩ = w.cell? ⟨c, j, none⟩ := fun c j hc => World.cell?_setCells_out _ _ _ _ _ (fun e _ => by
    have e : c = w0.heap.size + 1 + 1 := e
    show j < 6 ∨ 6 + 1 ≤ j
    omega)
  refine ⟨(out _ _ (.inl (by omega))).trans h.x6, (out _ _ (.inl (by omega))).trans h.x7, World.there_setCells h.res _ _ _, ?_, World.there_setCells h.may _ _ _, below_setCells _ _ _ _ h.bel (by omega), by rw [size_setCells]; exact h.siz⟩
  intro j u hu
  by_cases h6 : j = 6
  · subst h6
    simp at hu
    rw [← hu]
    exact World.cell?_setCell_same _ _ _ (h.row 6 _ rfl)
  · rw [out _ _ (.inr (by omega))]
    refine h.row j u ?_
    have hj : j < 8 := by have := (List.getElem?_eq_some_iff.1 hu).1; simpa using this
    rcases (by omega : j = 0 ∨ j = 1 ∨ j = 2 ∨ j = 3 ∨ j = 4 ∨ j = 5 ∨ j = 7) with rfl | rfl | rfl | rfl | rfl | rfl | rfl <;> exact hu
theorem Vars.put7 {w0 : World} {kd : Int} {bb : Bool} {ni : Int} {f : Nat} {tx ty : ByteArray} {ai : Option Addr} {nI ci : Nat} {af : Option Addr} {nf cf : Nat} {s6 s7 : Value} {w : World} (h : Vars w0 kd bb ni f tx ty ai nI ci af nf cf s6 s7 w) (s : Value) : Vars w0 kd bb ni f tx ty ai nI ci af nf cf s6 s (w.setCells (w0.heap.size + 1 + 1) 7 [s]) := by
  have out : ∀ c j, (c ≠ w0.heap.size + 1 + 1 ∨ j ≠ 7) → (w.setCells (w0.heap.size + 1 + 1) 7 [s]).cell? ⟨c, j, none⟩ = w.cell? ⟨c, j, none⟩ := fun c j hc => World.cell?_setCells_out _ _ _ _ _ (fun e _ => by
    have e : c = w0.heap.size + 1 + 1 := e
    show j < 7 ∨ 7 + 1 ≤ j
    omega)
  refine ⟨(out _ _ (.inl (by omega))).trans h.x6, (out _ _ (.inl (by omega))).trans h.x7, World.there_setCells h.res _ _ _, ?_, World.there_setCells h.may _ _ _, below_setCells _ _ _ _ h.bel (by omega), by rw [size_setCells]; exact h.siz⟩
  intro j u hu
  by_cases h6 : j = 7
  · subst h6
    simp at hu
    rw [← hu]
    exact World.cell?_setCell_same _ _ _ (h.row 7 _ rfl)
  · rw [out _ _ (.inr (by omega))]
    refine h.row j u ?_
    have hj : j < 8 := by have := (List.getElem?_eq_some_iff.1 hu).1; simpa using this
    rcases (by omega : j = 0 ∨ j = 1 ∨ j = 2 ∨ j = 3 ∨ j = 4 ∨ j = 5 ∨ j = 6) with rfl | rfl | rfl | rfl | rfl | rfl | rfl <;> exact hu
end Go.Proofs.Ythpcpminikmcbaa.vl
namespace Go.Proofs.Ythpcpminikmcbaa.vl
open Go.ChangeShapes Go.WideShapes Go.ChangeAt Go.RowKit
set_option linter.unusedVariables false
set_option linter.unusedSimpArgs false
theorem infoVz : ∃ i z, Try.prog.info? 27 = some i ∧ i.zero = some z ∧ i.size = 8 ∧ i.bytes = 112 ∧ z.cells.size = 8 := by
  have hin : (Try.prog.info? 27).map (fun i => (i.bytes, i.size, i.zero.map (·.cells.size))) = some (112, 8, some 8) := by kernel_rfl
  cases hq : Try.prog.info? 27 with
  | none => simp [hq] at hin
  | some i =>
    simp [hq] at hin
    obtain ⟨h1, h2, z, hz, h3⟩ := hin
    exact ⟨i, z, rfl, hz, h2, h1, h3⟩
theorem loadSM (w : World) (b o : Nat) (u : Value) (h : w.cell? ⟨b, o, none⟩ = some u) : (Instr.loadAt 25 (.pointer (some ⟨b, o, none⟩))).run Try.prog w = .ok u w := by go_simp
theorem wpO_load1 {P : Program} {o : Oper} {a : Act} {w : World} {K : Act → World → Prop} {Q : Exit → Act → World → Prop} (t : TypeId) (x : Operand) (ho : o.op = .load t x) (y v : Value) (hx : a.eval x = y) (hr : (Instr.loadAt t y).run P w = .ok v w) (h : K (a.put o.dst v) w) : o.wp P a w K Q := by
  unfold Oper.wp execOp
  simp only [ho, hx, Sem.run_bind, hr, Result.andThen_ok, Sem.run_pure]
  exact h
theorem infoMz : ∃ i z, Try.prog.info? 69 = some i ∧ i.zero = some z ∧ i.size = 9 ∧ i.bytes = 128 ∧ z.cells.size = 9 := by
  have hin : (Try.prog.info? 69).map (fun i => (i.bytes, i.size, i.zero.map (·.cells.size))) = some (128, 9, some 9) := by kernel_rfl
  cases hq : Try.prog.info? 69 with
  | none => simp [hq] at hin
  | some i =>
    simp [hq] at hin
    obtain ⟨h1, h2, z, hz, h3⟩ := hin
    exact ⟨i, z, rfl, hz, h2, h1, h3⟩
set_option maxHeartbeats 6000000 in
set_option maxRecDepth 6000 in
theorem rcopy_ok : ∀ v : Vl, Small v → RCopyAt v := by
  refine Vl.all ?_
  intro kd bb ni f tx ty its fls ihI ihF hsm cs w hv
  unfold Small at hsm
  obtain ⟨hl1, hl2, -, hsI, hsF⟩ := hsm
  unfold VlC at hv
  obtain ⟨ai, nI, ci, af, nf, cf, rfl, hI, hF, hni, hnf, hai, haf, hk1, hk2, hk3, hk4, hci, hcf⟩ := hv
  have hlI := VlsAt.len its _ _ hI
  have hlF := FlsAt.len fls _ _ hF
  have hsf := storeF
  obtain ⟨W, eW⟩ : ∃ W, W = (((w.alloc (.cells #[.int .i64 kd, .bool bb, .int .i64 ni, .float .f64 f, .string tx, .string ty, .slice ai nI ci, .slice af nf cf] 27)).alloc (.cells #[.int .i64 0, .bool false, .int .i64 0, .float .f64 0, .string { data := #[] }, .string { data := #[] }, .slice none 0 0, .slice none 0 0] 27)).alloc (.cells #[.int .i64 kd, .bool bb, .int .i64 ni, .float .f64 f, .string tx, .string ty, .slice none 0 0, .slice none 0 0] 27)) := ⟨_, rfl⟩
  have hV0 : Vars w kd bb ni f tx ty ai nI ci af nf cf (.slice none 0 0) (.slice none 0 0) W := by
    rw [eW]
    refine ⟨((World.cell?_alloc_past _ _ _ (by simp; omega)).trans ((World.cell?_alloc_past _ _ _ (by simp)).trans ((World.cell?_alloc_at _ _ _ _ rfl).trans rfl))), ((World.cell?_alloc_past _ _ _ (by simp; omega)).trans ((World.cell?_alloc_past _ _ _ (by simp)).trans ((World.cell?_alloc_at _ _ _ _ rfl).trans rfl))), ?_, ?_, ?_, (((Below.refl _ _).alloc (Nat.le_refl _) _).alloc (by simp) _).alloc (by simp; omega) _, by simp⟩
    · have h := there_new (w := w.alloc (.cells #[.int .i64 kd, .bool bb, .int .i64 ni, .float .f64 f, .string tx, .string ty, .slice ai nI ci, .slice af nf cf] 27)) (Z := #[.int .i64 0, .bool false, .int .i64 0, .float .f64 0, .string { data := #[] }, .string { data := #[] }, .slice none 0 0, .slice none 0 0]) (t := 27) (n := 8) rfl
      exact World.there_alloc (by simpa using h) _
    · intro j u hu
      rw [Nat.zero_add, World.cell?_alloc_at _ _ _ _ (by simp)]
      simpa using hu
    · have h := there_new (w := (w.alloc (.cells #[.int .i64 kd, .bool bb, .int .i64 ni, .float .f64 f, .string tx, .string ty, .slice ai nI ci, .slice af nf cf] 27)).alloc (.cells #[.int .i64 0, .bool false, .int .i64 0, .float .f64 0, .string { data := #[] }, .string { data := #[] }, .slice none 0 0, .slice none 0 0] 27)) (Z := #[.int .i64 kd, .bool bb, .int .i64 ni, .float .f64 f, .string tx, .string ty, .slice none 0 0, .slice none 0 0]) (t := 27) (n := 8) rfl
      simpa using h
  have EW := hide eW
  have HH := hide (And.intro hI (And.intro hF (And.intro hl1 (And.intro hl2 (And.intro hlI hlF)))))
  have HK := hide (And.intro hni (And.intro hnf (And.intro hk1 (And.intro hk2 (And.intro hk3 hk4)))))
  have bI : nI ≤ 1256584717458 := by omega
  have bF : nf ≤ 1099511627776 := by omega
  clear eW hI hF hl1 hl2 hlI hlF hni hnf hk1 hk2 hk3 hk4 hci hcf hai haf
  go_enter Try.func52, Try.ntmps52
  go_wp2_with fail
  rw [← unhide EW]
  clear EW
  go_loopw [4] (fun vi wr => ∃ (k : Nat) (sl : Value) (G : List Nat), k ≤ nI ∧ vi = .int .i64 k ∧ Hid (Vars w kd bb ni f tx ty ai nI ci af nf cf sl (.slice none 0 0) wr) ∧ Hid (Grow OwC 27 8 wr (w.heap.size + 3) (its.list.take k) sl G)) (fun vi _ => nI - (intOf vi).toNat)
  case atStart => exact ⟨0, .slice none 0 0, [], Nat.zero_le _, rfl, hide hV0, hide (by rw [List.take_zero]; exact Grow.nil)⟩
  case round =>
    obtain ⟨k, sl, G, hk, rfl, hV, hG⟩ := hrel
    have x6 := (unhide hV).x6
    have x7 := (unhide hV).x7
    by_cases hlt : k < nI
    · have ki : (k : Int) < (nI : Int) := by omega
      obtain ⟨p, off, v, us, rfl, hg, hr, hv⟩ := VlsAt.get its _ nI (unhide HH).1 k hlt
      have hcop := hide (ihI v (List.mem_of_getElem? hg) (hsI.all v (List.mem_of_getElem? hg)) us)
      have hr' := hide (Row8.below hr (unhide hV).bel)
      have hv' := hide (VlC.below (unhide hV).bel v us hv)
      have iu := hide (show (Try.prog.info? 27).map (·.size) = some us.length by rw [hv.cells]; exact infoV)
      have Hg := hide hg
      clear hr hv hg
      go_wp2_with (first
        | refine wpList_load_mid (by rfl) 27 _ (by rfl) p (off + k * 8) (by rfl) us _ (unhide hr') Try.underlying27 (by rfl) (unhide iu) ?_)
      refine ((unhide hcop) wr (unhide hv')).mono ?_
      rintro e w1 ⟨ds, F, rfl, hO1, hnd1, hF1, b1, z1⟩
      obtain ⟨V, eV⟩ : ∃ V, V = (w1.alloc (.cells #[.int .i64 0, .bool false, .int .i64 0, .float .f64 0, .string { data := #[] }, .string { data := #[] }, .slice none 0 0, .slice none 0 0] 27)).setCells w1.heap.size 0 ds := ⟨_, rfl⟩
      have d8 := (OwC.read v ds F hO1).cells
      have d1 := (OwC.read v ds F hO1).one
      have th : (w1.alloc (.cells #[.int .i64 0, .bool false, .int .i64 0, .float .f64 0, .string { data := #[] }, .string { data := #[] }, .slice none 0 0, .slice none 0 0] 27)).there w1.heap.size 0 ds.toArray.size := there_new (by simp [d8])
      have b2 : Below w1.heap.size w1 V := by rw [eV]; exact below_setCells _ _ _ _ ((Below.refl _ _).alloc (Nat.le_refl _) _) (Nat.le_refl _)
      have hrV : V.rangeAt w1.heap.size 0 ds := by rw [eV]; exact World.rangeAt_setCells_same _ _ _ _ (by simpa using th)
      have s1 := b1.size
      have s2 := b2.size
      have sV := (unhide hV).siz
      have V2 := ((unhide hV).below (b1.mono sV)).below (b2.mono (by omega))
      have G2 := ((unhide hG).below agV b1).below agV b2
      have O2 : OwC V v ds F := OwC.agree v ds F (Agree.of_below b2 (fun b hb => (hF1 b hb).2)) hO1
      have z2 := z1.below b2 (fun b hb => (hF1 b hb).2)
      have hown := fun b (hb : sl.ownBlock = some b) => (let ⟨xss, hr, _⟩ := (unhide hG).row; (hr.lt b hb).2)
      have hr2 : ∀ b ∈ F, w.heap.size + 3 ≤ b ∧ b < V.heap.size ∧ b ∉ G ∧ sl.ownBlock ≠ some b := fun b hb => by
        have h1 := hF1 b hb
        refine ⟨by omega, by omega, fun h => ?_, fun h => ?_⟩
        · have := ((unhide hG).rng b h).2; omega
        · have := hown b h; omega
      have c6 : V.cell? ⟨w.heap.size + 1 + 1, 6, none⟩ = some sl := V2.row 6 _ rfl
      have hlen : (its.list.take k).length = k := by rw [List.length_take, (unhide HH).2.2.2.2.1]; omega
      obtain ⟨i0, z0', hi0, hz0, hs0, hb0, hc0⟩ := infoVz
      have i8 : (Try.prog.info? 27).map (·.size) = some ds.toArray.size := by simp [d8, infoV]
      have i8' : (Try.prog.info? 27).map (·.size) = some ds.length := by rw [d8]; exact infoV
      have hone : ∀ u ∈ ds, u.oneCell' = true := fun u hu => (Array.all_eq_true_iff_forall_mem.1 d1) u (by simpa using hu)
      have hby : ((its.list.take k).length + 1) * 112 ≤ 140737488355328 := by rw [hlen]; omega
      have hml : (its.list.take k).length + 1 ≤ maxLen := by rw [hlen]; unfold maxLen; omega
      have hbd := buildV (OwC.read v ds F hO1)
      have hBV : w.heap.size + 3 ≤ V.heap.size := by omega
      have A := hide (And.intro th (And.intro hrV (And.intro i8 (And.intro i8' (And.intro hone (And.intro hby (And.intro hml hbd)))))))
      have C := hide (And.intro hi0 (And.intro hz0 (And.intro hs0 (And.intro hb0 hc0))))
      have D := hide (And.intro V2 (And.intro G2 (And.intro O2 (And.intro z2 (And.intro hr2 hnd1)))))
      have EV := hide eV
      have EL := hide hlen
      clear th hrV i8 i8' hone hby hml hbd hi0 hz0 hs0 hb0 hc0 V2 G2 O2 z2 hr2 hnd1 eV hO1 d8 hF1 z1 hown hlen x6 x7 hr' hv' iu hcop b1 b2
      have dl : ds.length = 8 := by have := (unhide A).2.2.2.1; rw [infoV] at this; exact (Option.some.inj this).symm
      have DL := hide dl
      clear dl
      go_wp2_with (first
        | (refine wpList_store_mid (by rfl) 27 _ _ (by rfl) w1.heap.size 0 ds.toArray (by rfl) (by rfl) (unhide A).1 (unhide A).2.2.1 d1 ?_; rw [show (w1.alloc (.cells #[.int .i64 0, .bool false, .int .i64 0, .float .f64 0, .string { data := #[] }, .string { data := #[] }, .slice none 0 0, .slice none 0 0] 27)).setCells w1.heap.size 0 ds.toArray.toList = V from (unhide EV).symm])
        | refine wpList_load_mid (by rfl) 27 _ (by rfl) w1.heap.size 0 (by rfl) ds _ (unhide A).2.1 Try.underlying27 (by rfl) (unhide A).2.2.2.1 ?_
        | refine wpList_buildOne (by rfl) 24 _ (by rfl) (.agg ds.toArray) _ (by rfl) ((unhide A).2.2.2.2.2.2.2 V) ?_
        | (at_builtin; refine wp_grow agV (by rfl) _ _ (by rfl) Try.underlying24 (unhide C).1 (unhide C).2.1 (unhide C).2.2.1 (unhide C).2.2.2.1 (unhide C).2.2.2.2 (by omega) (w.heap.size + 3) (its.list.take k) sl G (by rfl) (unhide D).2.1 v ds F (unhide D).2.2.1 (unhide DL) (unhide A).2.2.2.2.1 (unhide D).2.2.2.2.2 (unhide D).2.2.2.2.1 (unhide D).2.2.2.1 V.heap.size rfl (by rfl) (unhide A).2.2.2.2.2.1 (unhide A).2.2.2.2.2.2.1 hBV ?_; intro sl' w4 g4 b4; obtain ⟨aj, nj, cj, rfl⟩ := g4.form; have V4 := (unhide D).1.below b4; have e6 : w4.cell? ⟨w.heap.size + 1 + 1, 6, none⟩ = some sl := V4.row 6 _ rfl; have f6 : w4.frozen? ⟨w.heap.size + 1 + 1, 6, none⟩ = false := (V4.may 6 (by omega)).2; have HV4 := hide V4; have HG4 := hide g4; clear V4 g4))
      refine ⟨⟨k + 1, .slice aj nj cj, G ++ F, by omega, by go_num, hide ((unhide HV4).put6 _), hide ?_⟩, by simp only [intOf]; omega⟩
      rw [List.take_add_one, unhide Hg]
      exact Grow.setCells agV (unhide HG4) (w.heap.size + 1 + 1) 6 [.slice aj nj cj] (by omega)
    · obtain rfl : k = nI := by omega
      have hG' := hide (show Grow OwC 27 8 wr (w.heap.size + 3) its.list sl G by have := unhide hG; rwa [List.take_of_length_le (Nat.le_of_eq (unhide HH).2.2.2.2.1)] at this)
      clear hG
      go_wp2_with fail
      have hM0 := (unhide hV).siz
      have hGM : ∀ b, (b ∈ G ∨ sl.ownBlock = some b) → b < wr.heap.size := fun b hb => by
        rcases hb with hb | hb
        · exact ((unhide hG').rng b hb).2
        · obtain ⟨xss, hr, _⟩ := (unhide hG').row
          exact (hr.lt b hb).2
      have HGM := hide hGM
      clear hGM x6 x7 hlt
      obtain ⟨M, eM⟩ : ∃ M, M = wr.heap.size := ⟨_, rfl⟩
      rw [← eM] at hM0 HGM
      go_loopw [6] (fun vi wr' => ∃ (q : Nat) (sm : Value) (H : List Nat), q ≤ nf ∧ vi = .int .i64 q ∧ Hid (Vars w kd bb ni f tx ty ai k ci af nf cf sl sm wr') ∧ Hid (Grow OwC 27 8 wr' (w.heap.size + 3) its.list sl G) ∧ Hid (Grow OwM 69 9 wr' M (fls.list.take q) sm H) ∧ M ≤ wr'.heap.size) (fun vi _ => nf - (intOf vi).toNat)
      case atStart => exact ⟨0, .slice none 0 0, [], Nat.zero_le _, rfl, hV, hG', hide (by rw [List.take_zero]; exact Grow.nil), Nat.le_of_eq eM⟩
      case round =>
        clear hV hG' eM hk
        obtain ⟨q, sm, H, hq, rfl, hV, hG', hH, hMs⟩ := hrel
        have x6 := (unhide hV).x6
        have x7 := (unhide hV).x7
        by_cases hlt : q < nf
        · have ki : (q : Int) < (nf : Int) := by omega
          obtain ⟨p, off, nm, v, us, rfl, hg, hn0, hnz, hr, hv⟩ := FlsAt.get fls _ nf (unhide HH).2.1 q hlt
          have hcop := hide (ihF (nm, v) (List.mem_of_getElem? hg) (hsF.all (nm, v) (List.mem_of_getElem? hg)) us)
          have hr' := hide (Row8.below hr (unhide hV).bel)
          have hv' := hide (VlC.below (unhide hV).bel v us hv)
          have iu := hide (show (Try.prog.info? 27).map (·.size) = some us.length by rw [hv.cells]; exact infoV)
          have hpl := World.block_lt_of_cell? w _ hn0
          have hn1 := hide (keepC (unhide hV).bel hpl hn0)
          have Hg := hide hg
          clear hr hv hg hn0
          go_wp2_with (first
            | refine wpList_load_mid (by rfl) 27 _ (by rfl) p (off + q * 9 + 1) (by rfl) us _ (unhide hr') Try.underlying27 (by rfl) (unhide iu) ?_)
          refine ((unhide hcop) wr (unhide hv')).mono ?_
          rintro e w1 ⟨ds, F, rfl, hO1, hnd1, hF1, b1, z1⟩
          obtain ⟨V, eV⟩ : ∃ V, V = (w1.alloc (.cells #[.int .i64 0, .bool false, .int .i64 0, .float .f64 0, .string { data := #[] }, .string { data := #[] }, .slice none 0 0, .slice none 0 0] 27)).setCells w1.heap.size 0 ds := ⟨_, rfl⟩
          have d8 := (OwC.read v ds F hO1).cells
          have d1 := (OwC.read v ds F hO1).one
          have th : (w1.alloc (.cells #[.int .i64 0, .bool false, .int .i64 0, .float .f64 0, .string { data := #[] }, .string { data := #[] }, .slice none 0 0, .slice none 0 0] 27)).there w1.heap.size 0 ds.toArray.size := there_new (by simp [d8])
          have b2 : Below w1.heap.size w1 V := by rw [eV]; exact below_setCells _ _ _ _ ((Below.refl _ _).alloc (Nat.le_refl _) _) (Nat.le_refl _)
          have hrV : V.rangeAt w1.heap.size 0 ds := by rw [eV]; exact World.rangeAt_setCells_same _ _ _ _ (by simpa using th)
          have sV1 : V.heap.size = w1.heap.size + 1 := by rw [eV, size_setCells]; simp
          have s1 := b1.size
          have sV := (unhide hV).siz
          have V2 := ((unhide hV).below (b1.mono sV)).below (b2.mono (by omega))
          have G2 := ((unhide hG').below agV b1).below agV b2
          have H2 := ((unhide hH).below agM b1).below agM b2
          have O2 : OwC V v ds F := OwC.agree v ds F (Agree.of_below b2 (fun b hb => (hF1 b hb).2)) hO1
          have z2 := z1.below b2 (fun b hb => (hF1 b hb).2)
          have hown := fun b (hb : sm.ownBlock = some b) => (let ⟨xss, hr, _⟩ := (unhide hH).row; (hr.lt b hb).2)
          have hr2 : ∀ b ∈ F, M ≤ b ∧ b < V.heap.size ∧ b ∉ H ∧ sm.ownBlock ≠ some b := fun b hb => by
            have h1 := hF1 b hb
            refine ⟨by omega, by omega, fun h => ?_, fun h => ?_⟩
            · have := ((unhide hH).rng b h).2; omega
            · have := hown b h; omega
          have hlen : (fls.list.take q).length = q := by rw [List.length_take, (unhide HH).2.2.2.2.2]; omega
          obtain ⟨i0, z0', hi0, hz0, hs0, hb0, hc0⟩ := infoMz
          have i8 : (Try.prog.info? 27).map (·.size) = some ds.toArray.size := by simp [d8, infoV]
          have hn2 := keepC b2 (by omega) (keepC b1 (by have := (unhide hV).bel.size; omega) (unhide hn1))
          have A := hide (And.intro th (And.intro hrV i8))
          have EV := hide eV
          have HV2 := hide V2
          clear eV hrV i8 th V2 x6 x7 hr' hv' iu hcop hn1
          go_wp2_with (first
            | (refine wpList_store_mid (by rfl) 27 _ _ (by rfl) w1.heap.size 0 ds.toArray (by rfl) (by rfl) (unhide A).1 (unhide A).2.2 d1 ?_; rw [show (w1.alloc (.cells #[.int .i64 0, .bool false, .int .i64 0, .float .f64 0, .string { data := #[] }, .string { data := #[] }, .slice none 0 0, .slice none 0 0] 27)).setCells w1.heap.size 0 ds.toArray.toList = V from (unhide EV).symm]))
          have hS0 : Below (w.heap.size + 1 + 1) V { V with drawn := V.drawn + 1 } ∧ ({ V with drawn := V.drawn + 1 } : World).rangeAt w1.heap.size 0 ds := ⟨(Below.refl _ _).drew, (unhide A).2.1⟩
          have y7 := (unhide HV2).x7
          have i8' : (Try.prog.info? 27).map (·.size) = some ds.length := by rw [d8]; exact infoV
          refine wp_region_noPanic ?_
          refine wp_region_held (S := fun w' => Below (w.heap.size + 1 + 1) V w' ∧ w'.rangeAt w1.heap.size 0 ds) mixed ?_
          refine wpAnyH_take (i := 0) (v := ?v1) rfl (by kernel_rfl) (by kernel_rfl) (by kernel_rfl) (fun _ _ _ h => h) (Or.inl ⟨by rfl, ?hy1⟩) hS0 ?_
          case hy1 => (intro w' hw';  go_simp; try with_reducible rfl)
          simp only [List.getElem_toArray, List.getElem_cons_zero, List.getElem_cons_succ, Act.put, List.setIfInBounds_toArray, List.set_cons_zero, List.set_cons_succ]
          refine wpAnyH_take (i := 2) (v := ?v2) rfl (by kernel_rfl) (by kernel_rfl) (by kernel_rfl) (fun _ _ _ h => h) (Or.inl ⟨by rfl, ?hy2⟩) hS0 ?_
          case hy2 => (intro w' hw'; have c7 := (hw'.1.cell (p := ⟨w.heap.size, 7, none⟩) (show w.heap.size < w.heap.size + 1 + 1 by omega)).trans y7; have cn := (hw'.1.cell (p := ⟨p, off + q * 9, none⟩) (show p < w.heap.size + 1 + 1 by omega)).trans hn2; go_simp; try with_reducible rfl)
          simp only [List.getElem_toArray, List.getElem_cons_zero, List.getElem_cons_succ, Act.put, List.setIfInBounds_toArray, List.set_cons_zero, List.set_cons_succ]
          refine wpAnyH_take (i := 3) (v := ?v3) rfl (by kernel_rfl) (by kernel_rfl) (by kernel_rfl) (fun _ _ _ h => h) (Or.inl ⟨by rfl, ?hy3⟩) hS0 ?_
          case hy3 => (intro w' hw'; have c7 := (hw'.1.cell (p := ⟨w.heap.size, 7, none⟩) (show w.heap.size < w.heap.size + 1 + 1 by omega)).trans y7; have cn := (hw'.1.cell (p := ⟨p, off + q * 9, none⟩) (show p < w.heap.size + 1 + 1 by omega)).trans hn2; go_simp; try with_reducible rfl)
          simp only [List.getElem_toArray, List.getElem_cons_zero, List.getElem_cons_succ, Act.put, List.setIfInBounds_toArray, List.set_cons_zero, List.set_cons_succ]
          refine wpAnyH_take (i := 4) (v := ?v4) rfl (by kernel_rfl) (by kernel_rfl) (by kernel_rfl) (fun _ _ _ h => h) (Or.inl ⟨by rfl, ?hy4⟩) hS0 ?_
          case hy4 => (intro w' hw'; have c7 := (hw'.1.cell (p := ⟨w.heap.size, 7, none⟩) (show w.heap.size < w.heap.size + 1 + 1 by omega)).trans y7; have cn := (hw'.1.cell (p := ⟨p, off + q * 9, none⟩) (show p < w.heap.size + 1 + 1 by omega)).trans hn2; go_simp; try with_reducible rfl)
          simp only [List.getElem_toArray, List.getElem_cons_zero, List.getElem_cons_succ, Act.put, List.setIfInBounds_toArray, List.set_cons_zero, List.set_cons_succ]
          refine wpAnyH_take (i := 5) (v := ?v5) rfl (by kernel_rfl) (by kernel_rfl) (by kernel_rfl) (fun _ _ _ h => h) (Or.inl ⟨by rfl, ?hy5⟩) hS0 ?_
          case hy5 => (intro w' hw'; have c7 := (hw'.1.cell (p := ⟨w.heap.size, 7, none⟩) (show w.heap.size < w.heap.size + 1 + 1 by omega)).trans y7; have cn := (hw'.1.cell (p := ⟨p, off + q * 9, none⟩) (show p < w.heap.size + 1 + 1 by omega)).trans hn2; go_simp; try with_reducible rfl)
          simp only [List.getElem_toArray, List.getElem_cons_zero, List.getElem_cons_succ, Act.put, List.setIfInBounds_toArray, List.set_cons_zero, List.set_cons_succ]
          refine wpAnyH_take (i := 6) (v := ?v6) rfl (by kernel_rfl) (by kernel_rfl) (by kernel_rfl) (fun _ _ _ h => h) (Or.inl ⟨by rfl, ?hy6⟩) hS0 ?_
          case hy6 => (intro w' hw'; have c7 := (hw'.1.cell (p := ⟨w.heap.size, 7, none⟩) (show w.heap.size < w.heap.size + 1 + 1 by omega)).trans y7; have cn := (hw'.1.cell (p := ⟨p, off + q * 9, none⟩) (show p < w.heap.size + 1 + 1 by omega)).trans hn2; go_simp; try with_reducible rfl)
          simp only [List.getElem_toArray, List.getElem_cons_zero, List.getElem_cons_succ, Act.put, List.setIfInBounds_toArray, List.set_cons_zero, List.set_cons_succ]
          refine wpAnyH_take (i := 7) (v := ?v7) rfl (by kernel_rfl) (by kernel_rfl) (by kernel_rfl) (fun _ _ _ h => h) (Or.inl ⟨by rfl, ?hy7⟩) hS0 ?_
          case hy7 => (intro w' hw'; have c7 := (hw'.1.cell (p := ⟨w.heap.size, 7, none⟩) (show w.heap.size < w.heap.size + 1 + 1 by omega)).trans y7; have cn := (hw'.1.cell (p := ⟨p, off + q * 9, none⟩) (show p < w.heap.size + 1 + 1 by omega)).trans hn2; go_simp; try with_reducible rfl)
          simp only [List.getElem_toArray, List.getElem_cons_zero, List.getElem_cons_succ, Act.put, List.setIfInBounds_toArray, List.set_cons_zero, List.set_cons_succ]
          refine wpAnyH_take (i := 8) rfl (by kernel_rfl) (by kernel_rfl) (by kernel_rfl) (fun _ _ _ h => h) (yieldsIf_load_mid (by rfl) 27 _ (by rfl) w1.heap.size 0 (by rfl) ds _ (fun w' hw' => hw'.2) Try.underlying27 (by rfl) i8') hS0 ?_
          simp only [List.getElem_toArray, List.getElem_cons_zero, List.getElem_cons_succ, Act.put, List.setIfInBounds_toArray, List.set_cons_zero, List.set_cons_succ]
          refine rgn.take (i := 9) _ (.agg (Value.string nm :: ds).toArray) rfl (by kernel_rfl) (by kernel_rfl) (by kernel_rfl) (fun _ _ _ h => h) (by rfl) hS0 (fun w' hw' => by
            have hO4 := hO1
            clear hO1 d8 d1 A O2 G2 H2 hr2 hS0 i8' hw' EV sV1
            obtain ⟨kd, bb, ni, f, tx, ty, its, fls⟩ := v
            unfold OwC at hO4
            obtain ⟨ai, nI, ci, af, nf, cf, Fi, Ff, rfl, -⟩ := hO4
            go_simp) ?_
          simp only [List.getElem_toArray, List.getElem_cons_zero, List.getElem_cons_succ, Act.put, List.setIfInBounds_toArray, List.set_cons_zero, List.set_cons_succ]
          have hone : ∀ u ∈ (Value.string nm :: ds), u.oneCell' = true := fun u hu => (Array.all_eq_true_iff_forall_mem.1 (one9 nm (OwC.read v ds F hO1))) u (by simpa using hu)
          have hby : ((fls.list.take q).length + 1) * 128 ≤ 140737488355328 := by rw [hlen]; omega
          have hml : (fls.list.take q).length + 1 ≤ maxLen := by rw [hlen]; unfold maxLen; omega
          have hbd := buildM nm (OwC.read v ds F hO1) ({ V with drawn := V.drawn + 1 } : World)
          have hOM : OwM ({ V with drawn := V.drawn + 1 } : World) (nm, v) (Value.string nm :: ds) F := ⟨ds, rfl, hnz, OwC.agree v ds F (show Agree F V ({ V with drawn := V.drawn + 1 } : World) from fun b _ j => rfl) O2⟩
          have hH3 : Grow OwM 69 9 ({ V with drawn := V.drawn + 1 } : World) M (fls.list.take q) sm H := H2.keep agM (Nat.le_refl _) (fun b _ _ _ => rfl)
          have hMV : M ≤ V.heap.size := by omega
          have c7m : V.cell? ⟨w.heap.size + 1 + 1, 7, none⟩ = some sm := (unhide HV2).row 7 _ rfl
          have hl9 : (Value.string nm :: ds).length = 9 := by simp [d8]
          obtain ⟨X, eX⟩ : ∃ X, X = ({ V with drawn := V.drawn + 1 } : World).alloc (.cells (Value.string nm :: ds).toArray 69) := ⟨_, rfl⟩
          have hSX : Below (w.heap.size + 1 + 1) V X ∧ X.rangeAt w1.heap.size 0 ds := by
            rw [eX]
            refine ⟨hS0.1.alloc (show w.heap.size + 1 + 1 ≤ V.heap.size by omega) _, World.rangeAt_alloc hS0.2 _⟩
          have bX : Below V.heap.size V X := by rw [eX]; exact (Below.refl V.heap.size V).drew.alloc (Nat.le_refl _) _
          have c7x := keepC bX (show w.heap.size + 1 + 1 < V.heap.size by omega) c7m
          refine rgn.two (i := 1) (j := 10) _ _ rfl rfl (by kernel_rfl) (by rfl) (by rfl) ?_ ?_
          · simp only [List.getElem_toArray, List.getElem_cons_zero, List.getElem_cons_succ, Act.put, List.setIfInBounds_toArray, List.set_cons_zero, List.set_cons_succ]
            clear c7x
            go_wp2_with fail
            refine ⟨hS0, ?_⟩
            refine rgn.one (i := 10) _ rfl (by kernel_rfl) (by rfl) ?_
            simp only [List.getElem_toArray, List.getElem_cons_zero, List.getElem_cons_succ, Act.put, List.setIfInBounds_toArray, List.set_cons_zero, List.set_cons_succ]
            refine wpO_buildOne 25 _ (by rfl) (.agg (Value.string nm :: ds).toArray) _ (by rfl) hbd ?_
            rw [← eX]
            refine ⟨hSX, ?_⟩
            simp only [List.getElem_toArray, List.getElem_cons_zero, List.getElem_cons_succ, Act.put, List.setIfInBounds_toArray, List.set_cons_zero, List.set_cons_succ]
            refine rgn.one (i := 11) _ rfl (by kernel_rfl) (by rfl) ?_
            simp only [List.getElem_toArray, List.getElem_cons_zero, List.getElem_cons_succ, Act.put, List.setIfInBounds_toArray, List.set_cons_zero, List.set_cons_succ]
            rw [eX]
            refine wpO_grow agM _ _ (by rfl) Try.underlying25 hi0 hz0 hs0 hb0 hc0 (by omega) M (fls.list.take q) sm H (by rfl) hH3 (nm, v) (Value.string nm :: ds) F hOM hl9 hone hnd1 hr2 (fun b hb j => z2 b hb j) V.heap.size rfl (by rfl) hby hml hMV ?_
            intro sl' w4 g4 b4 far
            obtain ⟨aj, nj, cj, rfl⟩ := g4.form
            have b4' : Below M V w4 := (Below.refl _ _).drew.trans b4
            have hS4 : Below (w.heap.size + 1 + 1) V w4 ∧ w4.rangeAt w1.heap.size 0 ds := ⟨b4'.mono (by omega), fun j u hu => by
              rw [cell_blk (far w1.heap.size (show w1.heap.size < V.heap.size by omega) (fun h => by have := hown _ h; omega)) (0 + j)]
              exact (unhide A).2.1 j u hu⟩
            have V4 := (unhide HV2).below (b4'.mono hM0)
            have e7 : w4.cell? ⟨w.heap.size + 1 + 1, 7, none⟩ = some sm := V4.row 7 _ rfl
            have f7 : w4.frozen? ⟨w.heap.size + 1 + 1, 7, none⟩ = false := (V4.may 7 (by omega)).2
            refine ⟨hS4, ?_⟩
            have hS0 := hS4
            simp only [List.getElem_toArray, List.getElem_cons_zero, List.getElem_cons_succ, Act.put, List.setIfInBounds_toArray, List.set_cons_zero, List.set_cons_succ]
            refine rgn.take (i := 12) _ (.pointer (some ⟨w.heap.size + 1 + 1, 7, none⟩)) rfl (by kernel_rfl) (by kernel_rfl) (by kernel_rfl) (fun _ _ _ h => h) (by rfl) hS0 (fun w' hw' => by go_simp) ?_
            simp only [List.getElem_toArray, List.getElem_cons_zero, List.getElem_cons_succ, Act.put, List.setIfInBounds_toArray, List.set_cons_zero, List.set_cons_succ]
            refine rgn.one (i := 13) _ rfl (by kernel_rfl) (by rfl) ?_
            simp only [List.getElem_toArray, List.getElem_cons_zero, List.getElem_cons_succ, Act.put, List.setIfInBounds_toArray, List.set_cons_zero, List.set_cons_succ]
            have V5 := V4.put7 (.slice aj nj cj)
            have G5 : Grow OwC 27 8 (w4.setCells (w.heap.size + 1 + 1) 7 [.slice aj nj cj]) (w.heap.size + 3) its.list sl G := Grow.setCells agV (G2.keep agV b4'.size (fun b hb _ hm => b4'.block b (unhide HGM b hm))) _ _ _ (by omega)
            have H5 : Grow OwM 69 9 (w4.setCells (w.heap.size + 1 + 1) 7 [.slice aj nj cj]) M (fls.list.take q ++ [(nm, v)]) (.slice aj nj cj) (H ++ F) := Grow.setCells agM g4 _ _ _ (by omega)
            have hS5 : Below (w.heap.size + 1 + 1) V (w4.setCells (w.heap.size + 1 + 1) 7 [.slice aj nj cj]) ∧ (w4.setCells (w.heap.size + 1 + 1) 7 [.slice aj nj cj]).rangeAt w1.heap.size 0 ds := ⟨below_setCells _ _ _ _ hS4.1 (Nat.le_refl _), fun j u hu => by
              rw [World.cell?_setCells_out _ _ _ _ _ (fun e _ => by have e : w1.heap.size = w.heap.size + 1 + 1 := e; omega)]
              exact hS4.2 j u hu⟩
            have hs5 : M ≤ (w4.setCells (w.heap.size + 1 + 1) 7 [.slice aj nj cj]).heap.size := by rw [size_setCells]; exact Nat.le_trans hMV b4'.size
            have HF := hide (And.intro V5 (And.intro G5 (And.intro H5 (And.intro hS5 hs5))))
            clear V5 G5 H5 hS5 hs5 V4 hS4 hS0 g4 b4 b4' far hSX eX
            go_wp2_with fail
            refine ⟨(unhide HF).2.2.2.1, ?_⟩
            refine wpAnyH_done (by kernel_rfl) ?_ _
            refine NoPanic.normal ?_
            go_wp2
            exact ⟨⟨q + 1, .slice aj nj cj, H ++ F, by omega, by go_num, hide (unhide HF).1, hide (unhide HF).2.1, hide (by rw [List.take_add_one, unhide Hg]; exact (unhide HF).2.2.1), (unhide HF).2.2.2.2⟩, by simp only [intOf]; omega⟩
          · simp only [List.getElem_toArray, List.getElem_cons_zero, List.getElem_cons_succ, Act.put, List.setIfInBounds_toArray, List.set_cons_zero, List.set_cons_succ]
            refine wpO_buildOne 25 _ (by rfl) (.agg (Value.string nm :: ds).toArray) _ (by rfl) hbd ?_
            rw [← eX]
            refine ⟨hSX, ?_⟩
            simp only [List.getElem_toArray, List.getElem_cons_zero, List.getElem_cons_succ, Act.put, List.setIfInBounds_toArray, List.set_cons_zero, List.set_cons_succ]
            refine rgn.one (i := 1) _ rfl (by kernel_rfl) (by rfl) ?_
            simp only [List.getElem_toArray, List.getElem_cons_zero, List.getElem_cons_succ, Act.put, List.setIfInBounds_toArray, List.set_cons_zero, List.set_cons_succ]
            refine wpO_load1 25 _ (by rfl) _ sm (by rfl) (loadSM X (w.heap.size + 1 + 1) 7 sm c7x) ?_
            refine ⟨hSX, ?_⟩
            simp only [List.getElem_toArray, List.getElem_cons_zero, List.getElem_cons_succ, Act.put, List.setIfInBounds_toArray, List.set_cons_zero, List.set_cons_succ]
            refine rgn.one (i := 11) _ rfl (by kernel_rfl) (by rfl) ?_
            simp only [List.getElem_toArray, List.getElem_cons_zero, List.getElem_cons_succ, Act.put, List.setIfInBounds_toArray, List.set_cons_zero, List.set_cons_succ]
            rw [eX]
            refine wpO_grow agM _ _ (by rfl) Try.underlying25 hi0 hz0 hs0 hb0 hc0 (by omega) M (fls.list.take q) sm H (by rfl) hH3 (nm, v) (Value.string nm :: ds) F hOM hl9 hone hnd1 hr2 (fun b hb j => z2 b hb j) V.heap.size rfl (by rfl) hby hml hMV ?_
            intro sl' w4 g4 b4 far
            obtain ⟨aj, nj, cj, rfl⟩ := g4.form
            have b4' : Below M V w4 := (Below.refl _ _).drew.trans b4
            have hS4 : Below (w.heap.size + 1 + 1) V w4 ∧ w4.rangeAt w1.heap.size 0 ds := ⟨b4'.mono (by omega), fun j u hu => by
              rw [cell_blk (far w1.heap.size (show w1.heap.size < V.heap.size by omega) (fun h => by have := hown _ h; omega)) (0 + j)]
              exact (unhide A).2.1 j u hu⟩
            have V4 := (unhide HV2).below (b4'.mono hM0)
            have e7 : w4.cell? ⟨w.heap.size + 1 + 1, 7, none⟩ = some sm := V4.row 7 _ rfl
            have f7 : w4.frozen? ⟨w.heap.size + 1 + 1, 7, none⟩ = false := (V4.may 7 (by omega)).2
            refine ⟨hS4, ?_⟩
            have hS0 := hS4
            simp only [List.getElem_toArray, List.getElem_cons_zero, List.getElem_cons_succ, Act.put, List.setIfInBounds_toArray, List.set_cons_zero, List.set_cons_succ]
            refine rgn.take (i := 12) _ (.pointer (some ⟨w.heap.size + 1 + 1, 7, none⟩)) rfl (by kernel_rfl) (by kernel_rfl) (by kernel_rfl) (fun _ _ _ h => h) (by rfl) hS0 (fun w' hw' => by go_simp) ?_
            simp only [List.getElem_toArray, List.getElem_cons_zero, List.getElem_cons_succ, Act.put, List.setIfInBounds_toArray, List.set_cons_zero, List.set_cons_succ]
            refine rgn.one (i := 13) _ rfl (by kernel_rfl) (by rfl) ?_
            simp only [List.getElem_toArray, List.getElem_cons_zero, List.getElem_cons_succ, Act.put, List.setIfInBounds_toArray, List.set_cons_zero, List.set_cons_succ]
            have V5 := V4.put7 (.slice aj nj cj)
            have G5 : Grow OwC 27 8 (w4.setCells (w.heap.size + 1 + 1) 7 [.slice aj nj cj]) (w.heap.size + 3) its.list sl G := Grow.setCells agV (G2.keep agV b4'.size (fun b hb _ hm => b4'.block b (unhide HGM b hm))) _ _ _ (by omega)
            have H5 : Grow OwM 69 9 (w4.setCells (w.heap.size + 1 + 1) 7 [.slice aj nj cj]) M (fls.list.take q ++ [(nm, v)]) (.slice aj nj cj) (H ++ F) := Grow.setCells agM g4 _ _ _ (by omega)
            have hS5 : Below (w.heap.size + 1 + 1) V (w4.setCells (w.heap.size + 1 + 1) 7 [.slice aj nj cj]) ∧ (w4.setCells (w.heap.size + 1 + 1) 7 [.slice aj nj cj]).rangeAt w1.heap.size 0 ds := ⟨below_setCells _ _ _ _ hS4.1 (Nat.le_refl _), fun j u hu => by
              rw [World.cell?_setCells_out _ _ _ _ _ (fun e _ => by have e : w1.heap.size = w.heap.size + 1 + 1 := e; omega)]
              exact hS4.2 j u hu⟩
            have hs5 : M ≤ (w4.setCells (w.heap.size + 1 + 1) 7 [.slice aj nj cj]).heap.size := by rw [size_setCells]; exact Nat.le_trans hMV b4'.size
            have HF := hide (And.intro V5 (And.intro G5 (And.intro H5 (And.intro hS5 hs5))))
            clear V5 G5 H5 hS5 hs5 V4 hS4 hS0 g4 b4 b4' far hSX eX
            go_wp2_with fail
            refine ⟨(unhide HF).2.2.2.1, ?_⟩
            refine wpAnyH_done (by kernel_rfl) ?_ _
            refine NoPanic.normal ?_
            go_wp2
            exact ⟨⟨q + 1, .slice aj nj cj, H ++ F, by omega, by go_num, hide (unhide HF).1, hide (unhide HF).2.1, hide (by rw [List.take_add_one, unhide Hg]; exact (unhide HF).2.2.1), (unhide HF).2.2.2.2⟩, by simp only [intOf]; omega⟩
        · obtain rfl : q = nf := by omega
          have hH' := hide (show Grow OwM 69 9 wr M fls.list sm H by have := unhide hH; rwa [List.take_of_length_le (Nat.le_of_eq (unhide HH).2.2.2.2.2)] at this)
          clear hH
          obtain ⟨L, eL⟩ : ∃ L : List Value, L = [.int .i64 kd, .bool bb, .int .i64 ni, .float .f64 f, .string tx, .string ty, sl, sm] := ⟨_, rfl⟩
          have hrL : wr.rangeAt (w.heap.size + 1 + 1) 0 L := by rw [eL]; exact (unhide hV).row
          have hL8 : L.length = 8 := by rw [eL]; rfl
          obtain ⟨aj, nj, cj, rfl⟩ := (unhide hG').form
          obtain ⟨ag, ng, cg, rfl⟩ := (unhide hH').form
          have ho8 : L.toArray.all (·.oneCell') = true := by rw [eL]; simp [Value.oneCell']
          have iL : (Try.prog.info? 27).map (·.size) = some L.length := by rw [hL8]; exact infoV
          have iL' : (Try.prog.info? 27).map (·.size) = some L.toArray.size := by simp [hL8, infoV]
          have hT : wr.there (w.heap.size + 1) 0 L.toArray.size := by rw [show L.toArray.size = 8 by simp [hL8]]; exact (unhide hV).res
          have A := hide (And.intro hrL (And.intro iL (And.intro iL' (And.intro hT (And.intro hL8 eL)))))
          clear hrL iL iL' hT hL8 eL
          go_wp2_with (first
            | refine wpList_load_mid (by rfl) 27 _ (by rfl) (w.heap.size + 1 + 1) 0 (by rfl) L _ (unhide A).1 Try.underlying27 (by rfl) (unhide A).2.1 ?_
            | refine wpList_store_mid (by rfl) 27 _ _ (by rfl) (w.heap.size + 1) 0 L.toArray (by rfl) (by rfl) (unhide A).2.2.2.1 (unhide A).2.2.1 ho8 ?_)
          obtain ⟨hrL, iL, iL', hT, hL8, eL⟩ := unhide A
          have V9 := unhide hV
          have hr9 : (wr.setCells (w.heap.size + 1) 0 L).rangeAt (w.heap.size + 1) 0 L := World.rangeAt_setCells_same _ _ _ _ hT
          refine bodyPost_ret (rgn.result_row rfl _ _ (w.heap.size + 1) 0 L _ rfl hr9 Try.underlying27 rfl iL) rfl ?_
          have G9 := Grow.setCells agV (unhide hG') (w.heap.size + 1) 0 L (by omega)
          have H9 := Grow.setCells agM (unhide hH') (w.heap.size + 1) 0 L (by omega)
          have hG6 := unhide HGM
          obtain ⟨aj', cj', Fi, e6, hOI, ndI, rnI, fzI, q1, q2, q3⟩ := G9.parts
          obtain ⟨ag', cg', Ff, e7, hOF, ndF, rnF, fzF, r1, r2, r3⟩ := H9.parts
          simp only [Value.slice.injEq] at e6 e7
          obtain ⟨rfl, rfl, rfl⟩ := e6
          obtain ⟨rfl, rfl, rfl⟩ := e7
          have hfi : ∀ b ∈ Fi, b < M := fun b hb => by
            rcases hOI with ⟨_, _, _, rfl⟩ | ⟨p, xss, hp, rfl, _⟩
            · simp at hb
            · rcases List.mem_cons.1 hb with rfl | hb
              · exact hG6 _ (.inr (by rw [hp]; rfl))
              · exact hG6 b (.inl hb)
          have hsz9 := size_setCells (w.heap.size + 1) L 0 wr
          obtain ⟨_, _, hk1, hk2, hk3, hk4⟩ := unhide HK
          have hlI := (unhide HH).2.2.2.2.1
          have hlF := (unhide HH).2.2.2.2.2
          rw [hlI] at eL q1 hOI
          rw [hlF] at eL r1 hOF
          refine ⟨L, rfl, Fi ++ Ff, ?_, ?_, ?_, below_setCells _ _ _ _ V9.bel (by omega), fzI.app fzF⟩
          · unfold OwC
            refine ⟨_, _, _, _, _, _, Fi, Ff, eL, ?_, ?_, q1, r1, q2, r2, hk1, hk2, hk3, hk4, q3, r3, rfl⟩
            · rcases hOI with ⟨h1, h2, h3, h4⟩ | ⟨p, xss, hp, rfl, hl, hc⟩
              · exact .inl ⟨h1, by rw [← Vls.of_list its, h2]; rfl, h3, h4⟩
              · refine .inr ⟨p, G, hp, rfl, ?_⟩
                have := OwL.insV p 0 hl hc
                rwa [Vls.of_list, hlI] at this
            · rcases hOF with ⟨h1, h2, h3, h4⟩ | ⟨p, xss, hp, rfl, hl, hc⟩
              · exact .inl ⟨h1, by rw [← Fls.of_list fls, h2]; rfl, h3, h4⟩
              · refine .inr ⟨p, H, hp, rfl, ?_⟩
                have := OwL.insM p 0 hl hc
                rwa [Fls.of_list, hlF] at this
          · rw [List.nodup_append]
            exact ⟨ndI, ndF, fun x hx y hy e => by have h1 := hfi x hx; have h2 := (rnF y hy).1; omega⟩
          · intro b hb
            rcases List.mem_append.1 hb with h | h
            · have := rnI b h; omega
            · have := rnF b h; omega
end Go.Proofs.Ythpcpminikmcbaa.vl
namespace Go.Proofs.Ythpcpminikmcbaa.vl
open Go.ChangeShapes Go.WideShapes Go.ChangeAt Go.RowKit
open stp (St Pth St3)
set_option linter.unusedVariables false
set_option linter.unusedSimpArgs false
end Go.Proofs.Ythpcpminikmcbaa.vl
namespace Go.Proofs.Ythpcpminikmcbaa.vl
open Go.ChangeShapes Go.WideShapes Go.ChangeAt Go.RowKit
open stp (St Pth St3)
set_option linter.unusedVariables false
set_option linter.unusedSimpArgs false
/-- a child put into a value of the call's own -/
theorem FrC.put {lo : Nat} {w w3 : World} {v : Vl} {cs : List Value} {F : List Nat} {s : St} {i b o : Nat} {x : Vl} {ds : List Value} (h : OwC w v cs F) (hn : F.Nodup) (hF : ∀ c ∈ F, lo ≤ c ∧ c < w3.heap.size) (hi : chI v s = some i) (hl : Loc cs s i b o)
    (ha : AgreeBut F b o w w3) (hr : Row8 w3 b o ds) (hx : FrC lo w3 x ds) : FrC lo w3 (setS v s i x) cs := by
  obtain ⟨u, us, Fu, Gr, g1, g2, g3, g4, g5, g6, g7, g8⟩ := h.hole hn hi hl
  intro w' hw
  refine g8 w' x ds (fun c hc j hj => (hw c j (hF c (g6 c hc)).1 (hF c (g6 c hc)).2).trans (ha c (g6 c hc) j hj)) (fun j y hy => (hw b (o + j) (hF b (g6 b g7)).1 (hF b (g6 b g7)).2).trans (hr j y hy)) (hx w' hw)
theorem OwC.locIn {w : World} {v : Vl} {cs : List Value} {F : List Nat} {s : St} {i b o : Nat} (h : OwC w v cs F) (hn : F.Nodup) (hi : chI v s = some i) (hl : Loc cs s i b o) : b ∈ F := by
  obtain ⟨u, us, Fu, Gr, g1, g2, g3, g4, g5, g6, g7, g8⟩ := h.hole hn hi hl
  exact g6 b g7
end Go.Proofs.Ythpcpminikmcbaa.vl
namespace Go.Proofs.Ythpcpminikmcbaa.vl
open Go.ChangeShapes Go.WideShapes Go.ChangeAt Go.RowKit
open stp (St Pth St3)
set_option linter.unusedVariables false
set_option linter.unusedSimpArgs false
theorem allocV (w : World) : (Instr.alloc 27 true (.tuple #[])).run Try.prog w = .ok (.pointer (some ⟨w.heap.size, 0, none⟩)) (w.alloc (.cells #[.int .i64 0, .bool false, .int .i64 0, .float .f64 0, .string { data := #[] }, .string { data := #[] }, .slice none 0 0, .slice none 0 0] 27)) := by go_simp
theorem wpO_alloc {P : Program} {o : Oper} {a : Act} {w w' : World} {K : Act → World → Prop} {Q : Exit → Act → World → Prop} (t : TypeId) (ho : o.op = .alloc t) (v : Value) (hr : (Instr.alloc t true (.tuple #[])).run P w = .ok v w') (h : K (a.put o.dst v) w') : o.wp P a w K Q := by
  unfold Oper.wp execOp
  simp only [ho, Sem.run_bind, hr, Result.andThen_ok, Sem.run_pure]
  exact h
end Go.Proofs.Ythpcpminikmcbaa.vl
namespace Go.Proofs.Ythpcpminikmcbaa.vl
open Go.ChangeShapes Go.WideShapes Go.ChangeAt Go.RowKit
open stp (St Pth St3)
set_option linter.unusedVariables false
set_option linter.unusedSimpArgs false
def numC (n : Int) : List Value := [.int .i64 2, .bool false, .int .i64 n, .float .f64 0, .string { data := #[] }, .string { data := #[] }, .slice none 0 0, .slice none 0 0]
def txtC (s : ByteArray) : List Value := [.int .i64 4, .bool false, .int .i64 0, .float .f64 0, .string s, .string { data := #[] }, .slice none 0 0, .slice none 0 0]
theorem num_ok (n : Int) (w : World) : Calls Try.prog 8 #[.int .i64 n] w fun e w' => Below w.heap.size w w' ∧ e = .returned (.agg (numC n).toArray) := by
  have hsf := storeF
  go_enter Try.func8, Try.ntmps8
  go_wp2
  refine bodyPost_ret (results_cell_row rfl _ _ w.heap.size 27 _ (0, 0) _ rfl (heap_alloc_new _ _) Try.underlying27 rfl (by kernel_rfl)) rfl ?_
  exact ⟨(Below.refl _ _).alloc (Nat.le_refl _) _, rfl⟩
theorem text_ok (s : ByteArray) (w : World) : Calls Try.prog 51 #[.string s] w fun e w' => Below w.heap.size w w' ∧ e = .returned (.agg (txtC s).toArray) := by
  have hsf := storeF
  go_enter Try.func51, Try.ntmps51
  go_wp2
  refine bodyPost_ret (results_cell_row rfl _ _ w.heap.size 27 _ (0, 0) _ rfl (heap_alloc_new _ _) Try.underlying27 rfl (by kernel_rfl)) rfl ?_
  exact ⟨(Below.refl _ _).alloc (Nat.le_refl _) _, rfl⟩
theorem build2V {w0 w0' : World} {v u : Vl} {cs ds : List Value} (h : VlC w0 v cs) (h' : VlC w0' u ds) (w : World) : (Instr.buildSlice 24 2 #[(0, .agg cs.toArray), (1, .agg ds.toArray)]).run Try.prog w = .ok (.slice (some ⟨w.heap.size, 0, none⟩) 2 2) (w.alloc (.cells (cs ++ ds).toArray 27)) := by
  cases v; cases u
  unfold VlC at h h'
  obtain ⟨_, _, _, _, _, _, rfl, -⟩ := h
  obtain ⟨_, _, _, _, _, _, rfl, -⟩ := h'
  go_simp
theorem build2M {w0 w0' : World} {v u : Vl} {cs ds : List Value} (a b : ByteArray) (h : VlC w0 v cs) (h' : VlC w0' u ds) (w : World) : (Instr.buildSlice 25 2 #[(0, .agg (Value.string a :: cs).toArray), (1, .agg (Value.string b :: ds).toArray)]).run Try.prog w = .ok (.slice (some ⟨w.heap.size, 0, none⟩) 2 2) (w.alloc (.cells ((Value.string a :: cs) ++ (Value.string b :: ds)).toArray 69)) := by
  cases v; cases u
  unfold VlC at h h'
  obtain ⟨_, _, _, _, _, _, rfl, -⟩ := h
  obtain ⟨_, _, _, _, _, _, rfl, -⟩ := h'
  go_simp
theorem wpO_build2 {P : Program} {o : Oper} {a : Act} {w w' : World} {K : Act → World → Prop} {Q : Exit → Act → World → Prop} (t : TypeId) (x y : Operand) (ho : o.op = .buildSlice t 2 #[(0, x), (1, y)]) (v u sl : Value) (hx : a.eval x = v) (hy : a.eval y = u) (hr : (Instr.buildSlice t 2 #[(0, v), (1, u)]).run P w = .ok sl w')
    (h : K (a.put o.dst sl) w') : o.wp P a w K Q := by
  unfold Oper.wp execOp
  simp only [ho, List.map_toArray, List.map_cons, List.map_nil, hx, hy, Sem.run_bind, hr, Result.andThen_ok, Sem.run_pure]
  exact h
def eS : ByteArray := { data := #[] }
def innerV : Vl := .mk 6 false 0 0 eS eS .nil (.cons { data := #[98] } z0 .nil)
def listV : Vl := .mk 5 false 0 0 eS eS (.cons (.mk 2 false 1 0 eS eS .nil .nil) (.cons innerV .nil)) .nil
def twoV : Vl := .mk 6 false 0 0 eS eS .nil (.cons { data := #[97] } listV (.cons { data := #[99] } (.mk 4 false 0 0 { data := #[120] } eS .nil .nil) .nil))
theorem numV (n : Int) (hn : (Lit.int .i64 n).wf = true) (w : World) : VlC w (.mk 2 false n 0 eS eS .nil .nil) (numC n) := by
  unfold VlC
  exact ⟨none, 0, 0, none, 0, 0, rfl, by unfold VlsAt; rfl, by unfold FlsAt; rfl, Nat.le_refl _, Nat.le_refl _, fun _ => rfl, fun _ => rfl, rfl, hn, Nat.zero_le _, Nat.zero_le _, Nat.zero_le _, Nat.zero_le _⟩
theorem txtV (s : ByteArray) (hs : s.size ≤ maxLen) (w : World) : VlC w (.mk 4 false 0 0 s eS .nil .nil) (txtC s) := by
  unfold VlC
  exact ⟨none, 0, 0, none, 0, 0, rfl, by unfold VlsAt; rfl, by unfold FlsAt; rfl, Nat.le_refl _, Nat.le_refl _, fun _ => rfl, fun _ => rfl, rfl, rfl, hs, Nat.zero_le _, Nat.zero_le _, Nat.zero_le _⟩
def innerC (b : Nat) : List Value := [.int .i64 6, .bool false, .int .i64 0, .float .f64 0, .string { data := #[] }, .string { data := #[] }, .slice none 0 0, .slice (some ⟨b, 0, none⟩) 1 1]
def listC (b : Nat) : List Value := [.int .i64 5, .bool false, .int .i64 0, .float .f64 0, .string { data := #[] }, .string { data := #[] }, .slice (some ⟨b, 0, none⟩) 2 2, .slice none 0 0]
def twoC (b : Nat) : List Value := [.int .i64 6, .bool false, .int .i64 0, .float .f64 0, .string { data := #[] }, .string { data := #[] }, .slice none 0 0, .slice (some ⟨b, 0, none⟩) 2 2]
theorem innerV_at {w : World} {b : Nat} (h : w.rangeAt b 0 (Value.string { data := #[98] } :: z8)) : VlC w innerV (innerC b) := by
  unfold innerV VlC
  refine ⟨none, 0, 0, some ⟨b, 0, none⟩, 1, 1, rfl, by unfold VlsAt; rfl, ?_, Nat.le_refl _, Nat.le_refl _, fun _ => rfl, fun e => (by cases e), rfl, rfl, Nat.zero_le _, Nat.zero_le _, Nat.zero_le _, (by decide)⟩
  unfold FlsAt
  exact ⟨b, 0, 0, z8, rfl, rfl, h 0 _ rfl, (by decide), fun j u hu => by have := h (j + 1) u (by simpa using hu); rwa [show 0 + (j + 1) = 0 + 1 + j by omega] at this, OwC.read _ _ _ (OwC.zero _), by unfold FlsAt; rfl⟩
theorem listV_at {w : World} {b c : Nat} (h : w.rangeAt b 0 (numC 1 ++ innerC c)) (hi : VlC w innerV (innerC c)) : VlC w listV (listC b) := by
  unfold listV VlC
  refine ⟨some ⟨b, 0, none⟩, 2, 2, none, 0, 0, rfl, ?_, by unfold FlsAt; rfl, Nat.le_refl _, Nat.le_refl _, fun e => (by cases e), fun _ => rfl, rfl, rfl, Nat.zero_le _, Nat.zero_le _, (by decide), Nat.zero_le _⟩
  unfold VlsAt
  refine ⟨b, 0, 1, numC 1, rfl, rfl, fun j u hu => h j u ?_, numV 1 rfl w, ?_⟩
  · rw [List.getElem?_append_left (List.getElem?_eq_some_iff.1 hu).1]; exact hu
  unfold VlsAt
  refine ⟨b, 8, 0, innerC c, rfl, rfl, fun j u hu => ?_, hi, by unfold VlsAt; rfl⟩
  have := h (8 + j) u (by rw [List.getElem?_append_right (by simp [numC])]; simpa [numC] using hu)
  rwa [show 0 + (8 + j) = 8 + j by omega] at this
theorem twoV_at {w : World} {b c : Nat} (h : w.rangeAt b 0 ((Value.string { data := #[97] } :: listC c) ++ (Value.string { data := #[99] } :: txtC { data := #[120] }))) (hl : VlC w listV (listC c)) : VlC w twoV (twoC b) := by
  unfold twoV VlC
  refine ⟨none, 0, 0, some ⟨b, 0, none⟩, 2, 2, rfl, by unfold VlsAt; rfl, ?_, Nat.le_refl _, Nat.le_refl _, fun _ => rfl, fun e => (by cases e), rfl, rfl, Nat.zero_le _, Nat.zero_le _, Nat.zero_le _, (by decide)⟩
  unfold FlsAt
  refine ⟨b, 0, 1, listC c, rfl, rfl, h 0 _ rfl, (by decide), fun j u hu => ?_, hl, ?_⟩
  · have := h (j + 1) u (by rw [List.getElem?_append_left (by have := (List.getElem?_eq_some_iff.1 hu).1; simp; omega)]; simpa using hu)
    rwa [show 0 + (j + 1) = 0 + 1 + j by omega] at this
  unfold FlsAt
  refine ⟨b, 9, 0, txtC { data := #[120] }, rfl, rfl, ?_, (by decide), fun j u hu => ?_, txtV _ (by decide) w, by unfold FlsAt; rfl⟩
  · have := h 9 (.string { data := #[99] }) rfl
    simpa using this
  · have := h (10 + j) u (by rw [List.getElem?_append_right (by simp [listC]; omega)]; simp [listC]; rw [show 10 + j - 9 = j + 1 by omega]; simpa using hu)
    rwa [show 0 + (10 + j) = 9 + 1 + j by omega] at this
theorem Small.twoV : Small twoV := by simp [vl.twoV, vl.listV, innerV, z0, Small, SmallI, SmallF, Vls.list, Fls.list]
end Go.Proofs.Ythpcpminikmcbaa.vl
namespace Go.Proofs.Ythpcpminikmcbaa.og
open Go.ChangeShapes Go.WideShapes Go.ChangeAt Go.RowKit
open vl hiding cB cFl cS cF cI cK cIt
open stp (c3 c3_lt c3_gt c3_eq cB cB_tri)
set_option linter.unusedVariables false
set_option linter.unusedSimpArgs false
theorem c3_zero {x t : Int} (h : c3 x t = 0) : x = t := by
  unfold c3 at h
  split at h
  · omega
  · split at h <;> omega
def orH (x y : Int) : Int := if x = 0 then y else x
theorem cmpOr_okH (x y : Int) (b : Nat) (w : World) (h0 : w.cell? ⟨b, 0, none⟩ = some (.int .i64 x)) (h1 : w.cell? ⟨b, 1, none⟩ = some (.int .i64 y)) : Calls Try.prog 70 #[.slice (some ⟨b, 0, none⟩) 2 2] w fun e w' => e = .returned (.int .i64 (orH x y)) ∧ w = w' := cmpOr_ok x y b w h0 h1
theorem build2I (x y : Int) (w : World) : (Instr.buildSlice 127 2 #[(0, .int .i64 x), (1, .int .i64 y)]).run Try.prog w = .ok (.slice (some ⟨w.heap.size, 0, none⟩) 2 2) (w.alloc (.cells #[.int .i64 x, .int .i64 y] 3)) := by
  go_simp
set_option maxHeartbeats 8000000 in
set_option maxRecDepth 6000 in
theorem order_ok : ∀ v : Vl, Small v → ∀ u : Vl, Small u → OrdAt v u := by
  refine Vl.all ?_
  intro kd b n f tx ty its fls ihI ihF hsm u hsu cs ds w h1 h2
  obtain ⟨kd', b', n', f', tx', ty', its', fls'⟩ := u
  have K1 := hide (fun W : World => kindOf_ok _ cs W w h1)
  have K2 := hide (fun W : World => kindOf_ok _ ds W w h2)
  unfold Small at hsm hsu
  obtain ⟨hlI, hlF, hfl, hsI, hsF⟩ := hsm
  obtain ⟨hlI', hlF', hfl', hsI', hsF'⟩ := hsu
  have FL := hide (fun W : World => floats_ok f f' W hfl hfl')
  have hV : ordV (.mk kd b n f tx ty its fls) (.mk kd' b' n' f' tx' ty' its' fls') = if c3 (kdOf kd) (kdOf kd') = 0 then
      (if kdOf kd = 1 then cBo b b' else if kdOf kd = 2 then c3 n n' else if kdOf kd = 3 then cFl f f' else if kdOf kd = 4 then cB tx tx' else if kdOf kd = 5 then ordI its its' else if kdOf kd = 6 then ordF fls fls' else if kdOf kd = 7 then (if cB ty ty' = 0 then cB tx tx' else cB ty ty') else 0)
    else c3 (kdOf kd) (kdOf kd') := by rw [ordV]
  rw [ordI_lex, ordF_lex] at hV
  have HV := hide hV
  have c8 := h1.cells
  have d8 := h2.cells
  have i1 : (Try.prog.info? 27).map (·.size) = some cs.length := by rw [c8]; exact infoV
  have i2 : (Try.prog.info? 27).map (·.size) = some ds.length := by rw [d8]; exact infoV
  obtain ⟨W, eW⟩ : ∃ W, W = (w.alloc (.cells cs.toArray 27)).alloc (.cells ds.toArray 27) := ⟨_, rfl⟩
  have bW : Gr w W := by rw [eW]; exact ((Gr.refl _).alloc _).alloc _
  have sW : w.heap.size + 1 < W.heap.size := by rw [eW]; simp
  have r1 : W.rangeAt w.heap.size 0 cs := fun j x hx => by
    rw [eW, Nat.zero_add, World.cell?_alloc_past _ _ _ (by simp), World.cell?_alloc_at _ _ _ _ rfl]; simpa using hx
  have r2 : W.rangeAt (w.heap.size + 1) 0 ds := fun j x hx => by
    rw [eW, Nat.zero_add, World.cell?_alloc_at _ _ _ _ (by simp)]; simpa using hx
  have EW := hide eW
  clear eW
  have HK : kdV (.mk kd b n f tx ty its fls) = kdOf kd := rfl
  have HK' : kdV (.mk kd' b' n' f' tx' ty' its' fls') = kdOf kd' := rfl
  rw [HK] at K1
  rw [HK'] at K2
  clear HK HK' hV hfl hfl' c8 d8
  have hrng := kdOf_rng kd
  generalize kdOf kd = K at *
  generalize kdOf kd' = K' at *
  generalize hOV : ordV (.mk kd b n f tx ty its fls) (.mk kd' b' n' f' tx' ty' its' fls') = OV at *
  clear hOV
  have HR := hide (And.intro r1 (And.intro r2 (And.intro i1 i2)))
  have HC := hide (And.intro h1 h2)
  clear r1 r2 i1 i2 h1 h2
  go_enter Try.func36, Try.ntmps36
  go_wp2_with (first
    | (rw [← unhide EW]; refine wpList_load_mid (by rfl) 27 _ (by rfl) w.heap.size 0 (by rfl) cs _ (unhide HR).1 Try.underlying27 (by rfl) (unhide HR).2.2.1 ?_))
  clear EW
  refine (unhide K1 _).mono ?_
  rintro e w1 ⟨rfl, g1⟩
  have R2 : w1.rangeAt (w.heap.size + 1) 0 ds := Row8.below (unhide HR).2.1 g1.1
  go_wp2_with (first
    | refine wpList_load_mid (by rfl) 27 _ (by rfl) (w.heap.size + 1) 0 (by rfl) ds _ R2 Try.underlying27 (by rfl) (unhide HR).2.2.2 ?_)
  refine (unhide K2 _).mono ?_
  rintro e w2 ⟨rfl, g2⟩
  go_wp2_with fail
  refine (kind_cmp K K' _).mono ?_
  rintro e w3 ⟨rfl, rfl⟩
  have G := g1.trans g2
  have GW := bW.trans G
  have Q1 : w2.rangeAt w.heap.size 0 cs := Row8.below (unhide HR).1 G.1
  have Q2 : w2.rangeAt (w.heap.size + 1) 0 ds := Row8.below (unhide HR).2.1 G.1
  have v1 := VlC.below GW.1 _ _ (unhide HC).1
  have v2 := VlC.below GW.1 _ _ (unhide HC).2
  clear R2 HR HC K1 K2
  unfold VlC at v1 v2
  obtain ⟨ai, ni, ci, af, nf, cf, rfl, hI, hF, hni, hnf, -, -, -, -, -, -, hci, hcf⟩ := v1
  obtain ⟨bi, mi, di, bf, mf, df, rfl, gI, gF, hmi, hmf, -, -, -, -, -, -, hdi, hdf⟩ := v2
  unfold maxLen at hci hcf hdi hdf
  have x1 := Q1 1 _ rfl
  have x2 := Q1 2 _ rfl
  have x3 := Q1 3 _ rfl
  have x4 := Q1 4 _ rfl
  have x5 := Q1 5 _ rfl
  have x6 := Q1 6 _ rfl
  have x7 := Q1 7 _ rfl
  have y1 := Q2 1 _ rfl
  have y2 := Q2 2 _ rfl
  have y3 := Q2 3 _ rfl
  have y4 := Q2 4 _ rfl
  have y5 := Q2 5 _ rfl
  have y6 := Q2 6 _ rfl
  have y7 := Q2 7 _ rfl
  simp only [Nat.zero_add] at x1 x2 x3 x4 x5 x6 x7 y1 y2 y3 y4 y5 y6 y7
  clear Q1 Q2
  by_cases hc : c3 K K' = 0
  · have HV := hide ((unhide HV).trans (if_pos hc))
    rw [hc]
    clear hc
    rcases hrng with rfl | rfl | rfl | rfl | rfl | rfl | rfl | rfl
    · have HV := hide ((unhide HV).trans (show _ = (0 : Int) by simp))
      go_wp2
      go_ret
      exact ⟨by rw [unhide HV]; rfl, GW⟩
    · have HV := hide ((unhide HV).trans (show _ = cBo b b' by simp))
      go_wp2_with fail
      refine (bools_ok b b' _).mono ?_
      rintro e w3 ⟨rfl, rfl⟩
      go_wp2
      go_ret
      exact ⟨by rw [unhide HV]; rfl, GW⟩
    · have HV := hide ((unhide HV).trans (show _ = c3 n n' by simp))
      go_wp2_with fail
      refine (i64_cmp n n' _).mono ?_
      rintro e w3 ⟨rfl, rfl⟩
      go_wp2
      go_ret
      exact ⟨by rw [unhide HV]; rfl, GW⟩
    · have HV := hide ((unhide HV).trans (show _ = cFl f f' by simp))
      go_wp2_with fail
      refine (unhide FL _).mono ?_
      rintro e w3 ⟨rfl, rfl⟩
      go_wp2
      go_ret
      exact ⟨by rw [unhide HV]; rfl, GW⟩
    · have HV := hide ((unhide HV).trans (show _ = cB tx tx' by simp))
      go_wp2_with fail
      refine (str_cmpE tx tx' _).mono ?_
      rintro e w3 ⟨rfl, rfl⟩
      go_wp2
      go_ret
      exact ⟨by rw [unhide HV]; rfl, GW⟩
    · have HV := hide ((unhide HV).trans (show _ = lexG ordV its.list its'.list by simp))
      go_wp2_with fail
      refine (cmpV_ok its its' (fun x hx y hy => ihI x hx (hsI.all x hx) y (hsI'.all y hy)) ai bi ni ci mi di _ hI gI (by rw [← VlsAt.len its _ _ hI]; omega) (by rw [← VlsAt.len its' _ _ gI]; omega)).mono ?_
      rintro e w3 ⟨rfl, g3⟩
      go_wp2
      go_ret
      exact ⟨by rw [unhide HV]; rfl, GW.trans g3⟩
    · have HV := hide ((unhide HV).trans (show _ = lexG ordM fls.list fls'.list by simp))
      go_wp2_with fail
      refine (cmpM_ok fls fls' (fun x hx y hy => ordM_ok x y (ihF x hx (hsF.all x hx) y.2 (hsF'.all y hy))) af bf nf cf mf df _ hF gF (by rw [← FlsAt.len fls _ _ hF]; omega) (by rw [← FlsAt.len fls' _ _ gF]; omega)).mono ?_
      rintro e w3 ⟨rfl, g3⟩
      go_wp2
      go_ret
      exact ⟨by rw [unhide HV]; rfl, GW.trans g3⟩
    · have HV := hide ((unhide HV).trans (show _ = orH (cB ty ty') (cB tx tx') by simp [orH]))
      have lx : w.heap.size < w2.heap.size := Nat.lt_of_lt_of_le (show w.heap.size < W.heap.size by omega) G.1.size
      have ly : w.heap.size + 1 < w2.heap.size := Nat.lt_of_lt_of_le sW G.1.size
      go_wp2_with fail
      have hS0 : Gr w2 { w2 with drawn := w2.drawn + 1 } := (Gr.refl _).drew
      refine wp_region_noPanic ?_
      refine wp_region_held (S := fun w' => Gr w2 w') mixed ?_
      refine wpAnyH_take (i := 0) (v := ?v1) rfl (by kernel_rfl) (by kernel_rfl) (by kernel_rfl) (fun _ _ _ h => h) (Or.inl ⟨by rfl, ?hy1⟩) hS0 ?_
      case hy1 => (intro w' hw'; have c5 := keepC hw'.1 lx x5; have d5 := keepC hw'.1 ly y5; go_simp; try with_reducible rfl)
      simp only [List.getElem_toArray, List.getElem_cons_zero, List.getElem_cons_succ, Act.put, List.setIfInBounds_toArray, List.set_cons_zero, List.set_cons_succ]
      refine wpAnyH_take (i := 1) (v := ?v2) rfl (by kernel_rfl) (by kernel_rfl) (by kernel_rfl) (fun _ _ _ h => h) (Or.inl ⟨by rfl, ?hy2⟩) hS0 ?_
      case hy2 => (intro w' hw'; have c5 := keepC hw'.1 lx x5; have d5 := keepC hw'.1 ly y5; go_simp; try with_reducible rfl)
      simp only [List.getElem_toArray, List.getElem_cons_zero, List.getElem_cons_succ, Act.put, List.setIfInBounds_toArray, List.set_cons_zero, List.set_cons_succ]
      refine wpAnyH_take (i := 2) (v := ?v3) rfl (by kernel_rfl) (by kernel_rfl) (by kernel_rfl) (fun _ _ _ h => h) (Or.inl ⟨by rfl, ?hy3⟩) hS0 ?_
      case hy3 => (intro w' hw'; have c5 := keepC hw'.1 lx x5; have d5 := keepC hw'.1 ly y5; go_simp; try with_reducible rfl)
      simp only [List.getElem_toArray, List.getElem_cons_zero, List.getElem_cons_succ, Act.put, List.setIfInBounds_toArray, List.set_cons_zero, List.set_cons_succ]
      refine wpAnyH_take (i := 3) (v := ?v4) rfl (by kernel_rfl) (by kernel_rfl) (by kernel_rfl) (fun _ _ _ h => h) (Or.inl ⟨by rfl, ?hy4⟩) hS0 ?_
      case hy4 => (intro w' hw'; have c5 := keepC hw'.1 lx x5; have d5 := keepC hw'.1 ly y5; go_simp; try with_reducible rfl)
      simp only [List.getElem_toArray, List.getElem_cons_zero, List.getElem_cons_succ, Act.put, List.setIfInBounds_toArray, List.set_cons_zero, List.set_cons_succ]
      refine wpAnyH_take (i := 5) (v := ?v5) rfl (by kernel_rfl) (by kernel_rfl) (by kernel_rfl) (fun _ _ _ h => h) (Or.inl ⟨by rfl, ?hy5⟩) hS0 ?_
      case hy5 => (intro w' hw'; have c4 := keepC hw'.1 lx x4; have d4 := keepC hw'.1 ly y4; go_simp; try with_reducible rfl)
      simp only [List.getElem_toArray, List.getElem_cons_zero, List.getElem_cons_succ, Act.put, List.setIfInBounds_toArray, List.set_cons_zero, List.set_cons_succ]
      refine wpAnyH_take (i := 6) (v := ?v6) rfl (by kernel_rfl) (by kernel_rfl) (by kernel_rfl) (fun _ _ _ h => h) (Or.inl ⟨by rfl, ?hy6⟩) hS0 ?_
      case hy6 => (intro w' hw'; have c4 := keepC hw'.1 lx x4; have d4 := keepC hw'.1 ly y4; go_simp; try with_reducible rfl)
      simp only [List.getElem_toArray, List.getElem_cons_zero, List.getElem_cons_succ, Act.put, List.setIfInBounds_toArray, List.set_cons_zero, List.set_cons_succ]
      refine wpAnyH_take (i := 7) (v := ?v7) rfl (by kernel_rfl) (by kernel_rfl) (by kernel_rfl) (fun _ _ _ h => h) (Or.inl ⟨by rfl, ?hy7⟩) hS0 ?_
      case hy7 => (intro w' hw'; have c4 := keepC hw'.1 lx x4; have d4 := keepC hw'.1 ly y4; go_simp; try with_reducible rfl)
      simp only [List.getElem_toArray, List.getElem_cons_zero, List.getElem_cons_succ, Act.put, List.setIfInBounds_toArray, List.set_cons_zero, List.set_cons_succ]
      refine wpAnyH_take (i := 8) (v := ?v8) rfl (by kernel_rfl) (by kernel_rfl) (by kernel_rfl) (fun _ _ _ h => h) (Or.inl ⟨by rfl, ?hy8⟩) hS0 ?_
      case hy8 => (intro w' hw'; have c4 := keepC hw'.1 lx x4; have d4 := keepC hw'.1 ly y4; go_simp; try with_reducible rfl)
      simp only [List.getElem_toArray, List.getElem_cons_zero, List.getElem_cons_succ, Act.put, List.setIfInBounds_toArray, List.set_cons_zero, List.set_cons_succ]
      refine rgn.one (i := 4) _ rfl (by kernel_rfl) (by rfl) ?_
      simp only [List.getElem_toArray, List.getElem_cons_zero, List.getElem_cons_succ, Act.put, List.setIfInBounds_toArray, List.set_cons_zero, List.set_cons_succ]
      go_wp2_with fail
      refine (str_cmpE ty ty' _).mono ?_
      rintro e w3 ⟨rfl, rfl⟩
      refine ⟨hS0, ?_⟩
      try simp only [List.getElem_toArray, List.getElem_cons_zero, List.getElem_cons_succ, Act.put, List.setIfInBounds_toArray, List.set_cons_zero, List.set_cons_succ]
      refine rgn.one (i := 9) _ rfl (by kernel_rfl) (by rfl) ?_
      simp only [List.getElem_toArray, List.getElem_cons_zero, List.getElem_cons_succ, Act.put, List.setIfInBounds_toArray, List.set_cons_zero, List.set_cons_succ]
      go_wp2_with fail
      refine (str_cmpE tx tx' _).mono ?_
      rintro e w3 ⟨rfl, rfl⟩
      refine ⟨hS0, ?_⟩
      try simp only [List.getElem_toArray, List.getElem_cons_zero, List.getElem_cons_succ, Act.put, List.setIfInBounds_toArray, List.set_cons_zero, List.set_cons_succ]
      refine rgn.one (i := 10) _ rfl (by kernel_rfl) (by rfl) ?_
      simp only [List.getElem_toArray, List.getElem_cons_zero, List.getElem_cons_succ, Act.put, List.setIfInBounds_toArray, List.set_cons_zero, List.set_cons_succ]
      refine wpO_build2 127 _ _ (by rfl) (.int .i64 (cB ty ty')) (.int .i64 (cB tx tx')) _ (by rfl) (by rfl) (build2I _ _ _) ?_
      obtain ⟨Y, eY⟩ : ∃ Y, Y = w2.drew.alloc (.cells #[.int .i64 (cB ty ty'), .int .i64 (cB tx tx')] 3) := ⟨_, rfl⟩
      have p0 : Y.cell? ⟨w2.drew.heap.size, 0, none⟩ = some (.int .i64 (cB ty ty')) := by rw [eY, World.cell?_alloc_at _ _ _ _ rfl]; rfl
      have p1 : Y.cell? ⟨w2.drew.heap.size, 1, none⟩ = some (.int .i64 (cB tx tx')) := by rw [eY, World.cell?_alloc_at _ _ _ _ rfl]; rfl
      have hS0 : Gr w2 Y := by rw [eY]; exact hS0.alloc _
      rw [← eY]
      clear eY
      refine ⟨hS0, ?_⟩
      try simp only [List.getElem_toArray, List.getElem_cons_zero, List.getElem_cons_succ, Act.put, List.setIfInBounds_toArray, List.set_cons_zero, List.set_cons_succ]
      refine rgn.one (i := 11) _ rfl (by kernel_rfl) (by rfl) ?_
      simp only [List.getElem_toArray, List.getElem_cons_zero, List.getElem_cons_succ, Act.put, List.setIfInBounds_toArray, List.set_cons_zero, List.set_cons_succ]
      go_wp2_with fail
      refine (cmpOr_okH _ _ _ _ p0 p1).mono ?_
      rintro e w3 ⟨rfl, rfl⟩
      refine ⟨hS0, ?_⟩
      refine wpAnyH_take (i := 12) (v := ?v9) rfl (by kernel_rfl) (by kernel_rfl) (by kernel_rfl) (fun _ _ _ h => h) (Or.inl ⟨by rfl, ?hy9⟩) hS0 ?_
      case hy9 => (intro w' hw';  go_simp; try with_reducible rfl)
      simp only [List.getElem_toArray, List.getElem_cons_zero, List.getElem_cons_succ, Act.put, List.setIfInBounds_toArray, List.set_cons_zero, List.set_cons_succ]
      refine wpAnyH_done (by kernel_rfl) ?_ _; refine NoPanic.normal ?_
      go_wp2
      go_ret
      exact ⟨by rw [unhide HV]; rfl, GW.trans hS0⟩
  · have HV := hide ((unhide HV).trans (if_neg hc))
    generalize c3 K K' = C at *
    have hc2 : (C != 0) = true := by simpa using hc
    clear hc
    go_wp2
    go_ret
    exact ⟨by rw [unhide HV]; rfl, GW⟩
end Go.Proofs.Ythpcpminikmcbaa.og
