import Derived.Test.YtfegalieiiaopabBx
namespace Go.Proofs.Ytfegalieiiaopab.dt
open Go.ChangeShapes Go.WideShapes Go.ChangeAt Go.RowKit
set_option linter.unusedVariables false
set_option linter.unusedSimpArgs false
/-- append of one row to a row of the call's own -/
theorem wpO_snoc {P : Program} {t e : TypeId} {size bytes : Nat} {i : TypeInfo} {z : Value} {w : World} {o : Oper} {a : Act} {K : Act → World → Prop} {Q : Exit → Act → World → Prop} (s x : Operand)
    (ho : o.op = .call { callee := .builtin .append, args := #[s, x], argTypes := #[t, t] }) (ht : P.underlying t = some (.slice e)) (hi : P.info? e = some i) (hz : i.zero = some z)
    (hsize : i.size = size) (hby : i.bytes = bytes) (hzs : z.cells.size = size) (hsz : 0 < size)
    (B n : Nat) (xs : List Value) (sl : Value) (hs : a.eval s = sl) (hrow : w.ownsRow B e size sl n xs) (ds : List Value) (hl : ds.length = size) (h1 : ∀ u ∈ ds, u.oneCell' = true)
    (N : Nat) (hN : N = w.heap.size) (hx : a.eval x = .slice (some ⟨N, 0, none⟩) 1 1) (hbytes : (n + 1) * bytes ≤ 140737488355328) (h63 : n + 1 ≤ maxLen) (hB : B ≤ w.heap.size)
    (h : ∀ sl' w', w'.ownsRow B e size sl' (n + 1) (xs ++ ds) → Below B w w' → (∀ b, b < w.heap.size → sl.ownBlock ≠ some b → w'.heap[b]? = w.heap[b]?) → (∀ b, sl'.ownBlock = some b → sl.ownBlock = some b ∨ w.heap.size ≤ b) → K (a.put o.dst sl') w') : o.wp P a (w.alloc (.cells ds.toArray e)) K Q := by
  subst hN
  refine wp_append_lies _ s x t ho B e i z size bytes ht hi hz hsize hby hzs hsz sl n xs hs (World.ownsRow.alloc hrow _) ⟨w.heap.size, 0, none⟩ 1 1 ds hx (by rw [hl]; omega) (fun j u hu => by
    rw [Addr.add_mid, Nat.zero_add, World.cell?_alloc_at _ _ _ _ rfl]; simpa using hu) h1 (by omega) h63 hbytes (by simp; omega) (w.heap.size + 1) (by simp) ?_
  intro g cap w' hrow' hgr hat hlt
  have hold : ∀ b, b < w.heap.size → sl.ownBlock ≠ some b → w'.heap[b]? = w.heap[b]? := fun b hb hne => by
    rw [hgr.block b (by simp; omega) (fun e => hne e.symm)]
    exact Below.heap_alloc w _ b hb
  refine h _ w' hrow' (((Below.refl _ _).alloc hB _).grown hgr (by simp; omega) (fun k hk => (hrow.lt k hk).1)) hold (fun b hb => ?_)
  have hgb : g = b := Option.some.inj hb
  subst hgb
  rcases hat with hat | hat
  · exact .inl hat
  · exact .inr (by omega)
theorem wp_snoc {P : Program} {t e : TypeId} {size bytes : Nat} {i : TypeInfo} {z : Value} {w : World} {ops : Array Oper} {rest : List Oper} {o : Oper} {a : Act} {Q : Exit → Act → World → Prop} (hgd : o.guard = none) (s x : Operand)
    (ho : o.op = .call { callee := .builtin .append, args := #[s, x], argTypes := #[t, t] }) (ht : P.underlying t = some (.slice e)) (hi : P.info? e = some i) (hz : i.zero = some z)
    (hsize : i.size = size) (hby : i.bytes = bytes) (hzs : z.cells.size = size) (hsz : 0 < size)
    (B n : Nat) (xs : List Value) (sl : Value) (hs : a.eval s = sl) (hrow : w.ownsRow B e size sl n xs) (ds : List Value) (hl : ds.length = size) (h1 : ∀ u ∈ ds, u.oneCell' = true)
    (N : Nat) (hN : N = w.heap.size) (hx : a.eval x = .slice (some ⟨N, 0, none⟩) 1 1) (hbytes : (n + 1) * bytes ≤ 140737488355328) (h63 : n + 1 ≤ maxLen) (hB : B ≤ w.heap.size)
    (h : ∀ sl' w', w'.ownsRow B e size sl' (n + 1) (xs ++ ds) → Below B w w' → (∀ b, b < w.heap.size → sl.ownBlock ≠ some b → w'.heap[b]? = w.heap[b]?) → (∀ b, sl'.ownBlock = some b → sl.ownBlock = some b ∨ w.heap.size ≤ b) → wpList P ops Q rest (a.put o.dst sl') w') : wpList P ops Q (o :: rest) a (w.alloc (.cells ds.toArray e)) :=
  wpList_plain hgd fun _ hK => wpO_snoc s x ho ht hi hz hsize hby hzs hsz B n xs sl hs hrow ds hl h1 N hN hx hbytes h63 hB fun sl' w' g b c d => hK _ _ (h sl' w' g b c d)
theorem wpO_buildOne {P : Program} {o : Oper} {a : Act} {w w' : World} {K : Act → World → Prop} {Q : Exit → Act → World → Prop} (t : TypeId) (x : Operand) (ho : o.op = .buildSlice t 1 #[(0, x)]) (v sl : Value) (hx : a.eval x = v) (hr : (Instr.buildSlice t 1 #[(0, v)]).run P w = .ok sl w')
    (h : K (a.put o.dst sl) w') : o.wp P a w K Q := by
  unfold Oper.wp execOp
  simp only [ho, List.map_toArray, List.map_cons, List.map_nil, hx, Sem.run_bind, hr, Result.andThen_ok, Sem.run_pure]
  exact h
theorem wpList_buildOne {P : Program} {ops : Array Oper} {rest : List Oper} {o : Oper} {a : Act} {w w' : World} {Q : Exit → Act → World → Prop} (hgd : o.guard = none) (t : TypeId) (x : Operand) (ho : o.op = .buildSlice t 1 #[(0, x)]) (v sl : Value) (hx : a.eval x = v) (hr : (Instr.buildSlice t 1 #[(0, v)]).run P w = .ok sl w')
    (h : wpList P ops Q rest (a.put o.dst sl) w') : wpList P ops Q (o :: rest) a w :=
  wpList_plain hgd fun _ hK => by
    unfold Oper.wp execOp
    simp only [ho, List.map_toArray, List.map_cons, List.map_nil, hx, Sem.run_bind, hr, Result.andThen_ok, Sem.run_pure]
    exact hK _ _ h
/-- a list that grows by append, what it holds in blocks of its own -/
structure Grow (t : TypeId) (size : Nat) (w : World) (B : Nat) (l : List Dt) (sl : Value) (G : List Nat) : Prop where
  nodup : G.Nodup
  rng : ∀ b ∈ G, B ≤ b ∧ b < w.heap.size
  own : ∀ b ∈ G, sl.ownBlock ≠ some b
  row : ∃ xss, w.ownsRow B t size sl l.length xss.flatten ∧ OwL Ow w l xss G ∧ ∀ xs ∈ xss, xs.length = size
theorem Grow.nil {t : TypeId} {size : Nat} {w : World} {B : Nat} : Grow t size w B [] (.slice none 0 0) [] :=
  ⟨List.nodup_nil, by simp, by simp, [], ⟨by simp, .inl ⟨rfl, rfl⟩⟩, ⟨rfl, rfl⟩, by simp⟩
theorem cell_blk {w w' : World} {b : Nat} (h : w'.heap[b]? = w.heap[b]?) (j : Nat) : w'.cell? ⟨b, j, none⟩ = w.cell? ⟨b, j, none⟩ := World.cell?_of_block (w := w) (a := ⟨b, j, none⟩) h
theorem owns_keep {w w' : World} {B : Nat} {e : TypeId} {size : Nat} {sl : Value} {n : Nat} {xs : List Value} (h : w.ownsRow B e size sl n xs) (hb : ∀ b, b < w.heap.size → B ≤ b → sl.ownBlock = some b → w'.heap[b]? = w.heap[b]?) : w'.ownsRow B e size sl n xs := by
  have hlt := h.lt
  obtain ⟨h1, h2⟩ := h
  refine ⟨h1, ?_⟩
  rcases h2 with h2 | ⟨g, cap, cur, hv, hg, hh, r⟩
  · exact .inl h2
  · have hob : sl.ownBlock = some g := by rw [hv]; rfl
    exact .inr ⟨g, cap, cur, hv, hg, (hb g (hlt g hob).2 hg hob).trans hh, r⟩
theorem Grow.keep {t : TypeId} {size : Nat} {w w' : World} {B : Nat} {l : List Dt} {sl : Value} {G : List Nat} (h : Grow t size w B l sl G) (hs : w.heap.size ≤ w'.heap.size)
    (hb : ∀ b, b < w.heap.size → B ≤ b → w'.heap[b]? = w.heap[b]?) : Grow t size w' B l sl G := by
  obtain ⟨xss, hr, hl, hx⟩ := h.row
  have hG : ∀ b ∈ G, w'.heap[b]? = w.heap[b]? := fun b hm => hb b (h.rng b hm).2 (h.rng b hm).1
  exact ⟨h.nodup, fun b hm => ⟨(h.rng b hm).1, Nat.lt_of_lt_of_le (h.rng b hm).2 hs⟩, h.own, xss, owns_keep hr (fun b h1 h2 _ => hb b h1 h2), OwL.agree (fun w w' e cs F => Ow.agree e cs F) (fun b hm j => cell_blk (hG b hm) j) hl, hx⟩
theorem Grow.kp {t : TypeId} {size : Nat} {w w' : World} {B C : Nat} {l : List Dt} {sl : Value} {G : List Nat} (h : Grow t size w B l sl G) (hk : Kp C w w') (hC : C < B) : Grow t size w' B l sl G :=
  h.keep hk.size (fun b h1 h2 => hk.block b h1 (by omega))
theorem Grow.snoc {t : TypeId} {size : Nat} {w w' : World} {B : Nat} {l : List Dt} {sl sl' : Value} {G : List Nat} {d : Dt} {ds : List Value} {F : List Nat} (h : Grow t size w B l sl G) (hd : Ow w d ds F) (hn : F.Nodup) (hF : ∀ b ∈ F, B ≤ b ∧ b < w.heap.size ∧ b ∉ G ∧ sl.ownBlock ≠ some b) (hl : ds.length = size)
    (hrow : ∀ xss : List (List Value), w.ownsRow B t size sl l.length xss.flatten → w'.ownsRow B t size sl' (l.length + 1) (xss.flatten ++ ds)) (hs : w.heap.size ≤ w'.heap.size) (hold : ∀ b, b < w.heap.size → sl.ownBlock ≠ some b → w'.heap[b]? = w.heap[b]?) (hat : ∀ b, sl'.ownBlock = some b → sl.ownBlock = some b ∨ w.heap.size ≤ b) : Grow t size w' B (l ++ [d]) sl' (G ++ F) := by
  obtain ⟨xss, hr, hol, hx⟩ := h.row
  refine ⟨?_, ?_, ?_, xss ++ [ds], ?_, ?_, ?_⟩
  · rw [List.nodup_append]
    exact ⟨h.nodup, hn, fun x hx y hy e => (hF y hy).2.2.1 (e ▸ hx)⟩
  · intro b hb
    rcases List.mem_append.1 hb with hb | hb
    · exact ⟨(h.rng b hb).1, Nat.lt_of_lt_of_le (h.rng b hb).2 hs⟩
    · exact ⟨(hF b hb).1, Nat.lt_of_lt_of_le (hF b hb).2.1 hs⟩
  · intro b hb e
    have hlt' : b < w.heap.size := by
      rcases List.mem_append.1 hb with hb | hb
      · exact (h.rng b hb).2
      · exact (hF b hb).2.1
    rcases hat b e with hat | hat
    · rcases List.mem_append.1 hb with hb | hb
      · exact h.own b hb hat
      · exact (hF b hb).2.2.2 hat
    · omega
  · have := hrow xss hr
    simpa using this
  · refine OwL.agree (fun w w' e cs F => Ow.agree e cs F) (fun b hb j => ?_) (OwL.snoc hd hol)
    rcases List.mem_append.1 hb with hb | hb
    · exact cell_blk (hold b (h.rng b hb).2 (h.own b hb)) j
    · exact cell_blk (hold b (hF b hb).2.1 (hF b hb).2.2.2) j
  · intro xs hxs
    rcases List.mem_append.1 hxs with hxs | hxs
    · exact hx xs hxs
    · obtain rfl : xs = ds := by simpa using hxs
      exact hl
theorem Grow.form {t : TypeId} {size : Nat} {w : World} {B : Nat} {l : List Dt} {sl : Value} {G : List Nat} (h : Grow t size w B l sl G) : ∃ a c, sl = .slice a l.length c := by
  obtain ⟨xss, hr, _, _⟩ := h.row
  rcases hr.2 with ⟨e, h3⟩ | ⟨g, cap, cur, e, _⟩
  · exact ⟨none, 0, by rw [e, h3]⟩
  · exact ⟨_, _, e⟩
/-- a list that has grown, as the list of a row -/
theorem Grow.shut {t : TypeId} {size : Nat} {w : World} {B : Nat} {l : List Dt} {sl : Value} {G : List Nat} (h : Grow t size w B l sl G) : ∃ (a : Option Addr) (n c : Nat) (F : List Nat), sl = .slice a n c ∧ n ≤ c ∧ c ≤ maxLen ∧ (a = none → c = 0) ∧ F.Nodup ∧ (∀ b ∈ F, B ≤ b ∧ b < w.heap.size) ∧ n = l.length ∧
    ((a = none ∧ Dt.of l = .nil ∧ n = 0 ∧ F = []) ∨ ∃ p G', a = some ⟨p, 0, none⟩ ∧ F = p :: G' ∧ OwIn w (Dt.of l) size p 0 n G') := by
  obtain ⟨xss, hr, hol, hx⟩ := h.row
  have hlt := hr.lt
  have hr2 := hr
  obtain ⟨h1, h2⟩ := hr
  rcases h2 with ⟨rfl, h3⟩ | ⟨g, cap, cur, rfl, hg, hh, hnc, hcm, r⟩
  · have hl0 : l = [] := List.eq_nil_of_length_eq_zero h3
    subst hl0
    exact ⟨none, 0, 0, [], rfl, Nat.le_refl _, Nat.zero_le _, fun _ => rfl, List.nodup_nil, by simp, rfl, .inl ⟨rfl, rfl, rfl, rfl⟩⟩
  · refine ⟨_, _, _, g :: G, rfl, hnc, hcm, (fun e => by cases e), List.nodup_cons.2 ⟨fun hm => h.own g hm rfl, h.nodup⟩, ?_, rfl, .inr ⟨g, G, rfl, rfl, ?_⟩⟩
    · intro b hb
      rcases List.mem_cons.1 hb with rfl | hb
      · exact ⟨hg, (hlt b rfl).2⟩
      · exact h.rng b hb
    · refine OwL.shut l xss G 0 hol hx (fun i u hu => ?_)
      have hi : i < l.length * size := by
        have := (List.getElem?_eq_some_iff.1 hu).1
        rw [h1] at this
        exact this
      rw [Nat.zero_add]
      rw [World.ownsRow.cellAt hr2 i (by first | exact hi | omega)]
      exact hu
end Go.Proofs.Ytfegalieiiaopab.dt
