import Derived.Test.YtechaplindbfoaaGreatDoorJbu2
namespace Go.Proofs.YtechaplindbfoaaGreatDoor.jsn
open Go.ChangeShapes Go.WideShapes Go.ChangeAt Go.RowKit
open mem
open vl hiding hide unhide Hid
open ints (hide unhide)
set_option linter.unusedVariables false
set_option linter.unusedSimpArgs false
def P2J {α β : Type} (R : α → β → Prop) : List α → List β → Prop
  | [], [] => True
  | a :: l, b :: r => R a b ∧ P2J R l r
  | [], _ :: _ => False
  | _ :: _, [] => False
theorem P2J.snoc {α β : Type} {R : α → β → Prop} {a : α} {b : β} (hab : R a b) : ∀ {l : List α} {r : List β}, P2J R l r → P2J R (l ++ [a]) (r ++ [b])
  | [], [], _ => ⟨hab, trivial⟩
  | _ :: _, _ :: _, h => ⟨h.1, P2J.snoc hab h.2⟩
  | [], _ :: _, h => h.elim
  | _ :: _, [], h => h.elim
/-- a new list that grows: what its elements' cells are -/
def GrJ {E : Type} (R : E → List Value → Prop) (t : TypeId) (size : Nat) (B : Nat) (l : List E) (sl : Value) (w : World) : Prop := ∃ xss : List (List Value), w.ownsRow B t size sl l.length xss.flatten ∧ P2J R l xss
theorem GrJ.nil {E : Type} {R : E → List Value → Prop} {t : TypeId} {size B : Nat} {w : World} : GrJ R t size B [] (.slice none 0 0) w := ⟨[], ⟨by simp, .inl ⟨rfl, rfl⟩⟩, trivial⟩
theorem GrJ.kept {E : Type} {R : E → List Value → Prop} {t : TypeId} {size B : Nat} {l : List E} {sl : Value} {w w' : World} {row : Option Nat} (h : GrJ R t size B l sl w) (hg : w.grownBy w' row) (hne : sl.ownBlock = none ∨ sl.ownBlock ≠ row) : GrJ R t size B l sl w' := by
  obtain ⟨xss, h1, h2⟩ := h
  exact ⟨xss, h1.kept hg hne, h2⟩
theorem GrJ.lt {E : Type} {R : E → List Value → Prop} {t : TypeId} {size B : Nat} {l : List E} {sl : Value} {w : World} (h : GrJ R t size B l sl w) : ∀ k, sl.ownBlock = some k → B ≤ k ∧ k < w.heap.size := by
  obtain ⟨xss, h1, h2⟩ := h
  exact h1.lt
theorem own_keep {w w' : World} {B n size : Nat} {t : TypeId} {sl : Value} {zs : List Value} (h : w.ownsRow B t size sl n zs) (hs : ∀ b, sl.ownBlock = some b → w'.heap[b]? = w.heap[b]?) : w'.ownsRow B t size sl n zs := by
  obtain ⟨h1, h2⟩ := h
  refine ⟨h1, ?_⟩
  rcases h2 with h2 | ⟨g, cap, cur, hv, hg, hh, r⟩
  · exact .inl h2
  · exact .inr ⟨g, cap, cur, hv, hg, (hs g (by rw [hv]; rfl)).trans hh, r⟩
theorem GrJ.keep {E : Type} {R : E → List Value → Prop} {t : TypeId} {size B : Nat} {l : List E} {sl : Value} {w w' : World} (h : GrJ R t size B l sl w) (hs : ∀ b, sl.ownBlock = some b → w'.heap[b]? = w.heap[b]?) : GrJ R t size B l sl w' := by
  obtain ⟨xss, h1, h2⟩ := h
  exact ⟨xss, own_keep h1 hs, h2⟩
theorem wpO_grj {E : Type} {R : E → List Value → Prop} {P : Program} {t e : TypeId} {size bytes : Nat} {i : TypeInfo} {z : Value} {w : World} {o : Oper} {a : Act} {K : Act → World → Prop} {Q : Exit → Act → World → Prop} (s x : Operand)
    (ho : o.op = .call { callee := .builtin .append, args := #[s, x], argTypes := #[t, t] }) (ht : P.underlying t = some (.slice e)) (hi : P.info? e = some i) (hz : i.zero = some z)
    (hsize : i.size = size) (hby : i.bytes = bytes) (hzs : z.cells.size = size) (hsz : 0 < size)
    (B : Nat) (l : List E) (sl : Value) (hs : a.eval s = sl) (hg : GrJ R e size B l sl w) (v : E) (ds : List Value) (hv : R v ds) (hl : ds.length = size) (h1 : ∀ u ∈ ds, u.oneCell' = true)
    (N : Nat) (hN : N = w.heap.size) (hx : a.eval x = .slice (some ⟨N, 0, none⟩) 1 1) (hbytes : (l.length + 1) * bytes ≤ 140737488355328) (h63 : l.length + 1 ≤ maxLen) (hB : B ≤ w.heap.size)
    (h : ∀ g cap w', GrJ R e size B (l ++ [v]) (.slice (some ⟨g, 0, none⟩) (l.length + 1) cap) w' → (w.alloc (.cells ds.toArray e)).grownBy w' sl.ownBlock → (sl.ownBlock = some g ∨ g = w.heap.size + 1) → K (a.put o.dst (.slice (some ⟨g, 0, none⟩) (l.length + 1) cap)) w') : o.wp P a (w.alloc (.cells ds.toArray e)) K Q := by
  subst hN
  obtain ⟨xss, hrow, hol⟩ := hg
  refine wp_append_lies _ s x t ho B e i z size bytes ht hi hz hsize hby hzs hsz sl l.length xss.flatten hs (World.ownsRow.alloc hrow _) ⟨w.heap.size, 0, none⟩ 1 1 ds hx (by rw [hl]; omega) (fun j u hu => by
    rw [Addr.add_mid, Nat.zero_add, World.cell?_alloc_at _ _ _ _ rfl]; simpa using hu) h1 (by omega) h63 hbytes (by simp; omega) (w.heap.size + 1) (by simp) ?_
  intro g cap w' hrow' hgr hat hlt
  exact h g cap w' ⟨xss ++ [ds], by simpa using hrow', hol.snoc hv⟩ hgr hat
def Rv (V : World) (v : Vl) (cs : List Value) : Prop := VlC V v cs
def Rm (V : World) (q : ByteArray × Vl) (cs : List Value) : Prop := ∃ us, cs = Value.string q.1 :: us ∧ q.1.size ≤ maxLen ∧ VlC V q.2 us
theorem GrJ.readV {W : World} : ∀ {l : List Vl} {xss : List (List Value)} (p off : Nat) (w : World), P2J (Rv W) l xss → Below W.heap.size W w → (∀ j u, xss.flatten[j]? = some u → w.cell? ⟨p, off + j, none⟩ = some u) → VlsAt w (Vls.of l) (some ⟨p, off, none⟩) l.length
  | [], [], p, off, w, h, hb, hc => by
    simp only [Vls.of]
    unfold VlsAt
    rfl
  | v :: r, cs :: xss, p, off, w, h, hb, hc => by
    have h1 : VlC W v cs := h.1
    have h8 := h1.cells
    simp only [Vls.of]
    unfold VlsAt
    refine ⟨p, off, r.length, cs, rfl, rfl, fun j u hu => hc j u ?_, VlC.below hb _ _ h1, GrJ.readV p (off + 8) w h.2 hb (fun j u hu => ?_)⟩
    · rw [List.flatten_cons, List.getElem?_append_left (List.getElem?_eq_some_iff.1 hu).1]; exact hu
    · rw [show off + 8 + j = off + (8 + j) by omega]
      refine hc (8 + j) u ?_
      rw [List.flatten_cons, List.getElem?_append_right (by omega), h8]
      simpa using hu
  | [], _ :: _, p, off, w, h, _, _ => h.elim
  | _ :: _, [], p, off, w, h, _, _ => h.elim
theorem GrJ.readM {W : World} : ∀ {l : List (ByteArray × Vl)} {xss : List (List Value)} (p off : Nat) (w : World), P2J (Rm W) l xss → Below W.heap.size W w → (∀ j u, xss.flatten[j]? = some u → w.cell? ⟨p, off + j, none⟩ = some u) → FlsAt w (Fls.of l) (some ⟨p, off, none⟩) l.length
  | [], [], p, off, w, h, hb, hc => by
    simp only [Fls.of]
    unfold FlsAt
    rfl
  | (nm, v) :: r, cs :: xss, p, off, w, h, hb, hc => by
    obtain ⟨us, rfl, hz, h1⟩ : Rm W (nm, v) cs := h.1
    have h8 := h1.cells
    simp only [Fls.of]
    unfold FlsAt
    refine ⟨p, off, r.length, us, rfl, rfl, hc 0 _ rfl, hz, fun j u hu => ?_, VlC.below hb _ _ h1, GrJ.readM p (off + 9) w h.2 hb (fun j u hu => ?_)⟩
    · rw [show off + 1 + j = off + (j + 1) by omega]
      refine hc (j + 1) u ?_
      rw [List.flatten_cons, List.getElem?_append_left (by have := (List.getElem?_eq_some_iff.1 hu).1; simp; omega)]
      simpa using hu
    · rw [show off + 9 + j = off + (9 + j) by omega]
      refine hc (9 + j) u ?_
      rw [List.flatten_cons, List.getElem?_append_right (by simp; omega)]
      simp only [List.length_cons, h8]
      rw [show 9 + j - (8 + 1) = j by omega]
      exact hu
  | [], _ :: _, p, off, w, h, _, _ => h.elim
  | (_, _) :: _, [], p, off, w, h, _, _ => h.elim
def brL (x : Value) : List Value := [.int .i64 5, .bool false, .int .i64 0, .float .f64 0, .string ⟨#[]⟩, .string ⟨#[]⟩, x, .slice none 0 0]
def brM (x : Value) : List Value := [.int .i64 6, .bool false, .int .i64 0, .float .f64 0, .string ⟨#[]⟩, .string ⟨#[]⟩, .slice none 0 0, x]
/-- the list and the object as they grow -/
structure BdS (V : World) (FZ : Nat → Prop) (Wz : World) (Ll : List Vl) (Lm : List (ByteArray × Vl)) (sl sm xl xm : Value) (w : World) : Prop where
  gl : GrJ (Rv V) 29 8 (V.heap.size + 2) Ll sl w
  gm : GrJ (Rm V) 45 9 (V.heap.size + 2) Lm sm w
  ne : ∀ b, sl.ownBlock = some b → sm.ownBlock ≠ some b
  bel : Below V.heap.size V w
  siz : V.heap.size + 2 ≤ w.heap.size
  cl : w.rangeAt V.heap.size 0 (brL xl)
  cm : w.rangeAt (V.heap.size + 1) 0 (brM xm)
  tl : w.there V.heap.size 0 8
  tm : w.there (V.heap.size + 1) 0 8
  sepL : ∀ b, sl.ownBlock = some b → ¬ FZ b
  sepM : ∀ b, sm.ownBlock = some b → ¬ FZ b
  zlo : ∀ b, FZ b → V.heap.size + 2 ≤ b ∧ b < w.heap.size
  zeq : ∀ b, FZ b → w.heap[b]? = Wz.heap[b]?
theorem BdS.below {V : World} {FZ : Nat → Prop} {Wz : World} {Ll : List Vl} {Lm : List (ByteArray × Vl)} {sl sm xl xm : Value} {w w' : World} (h : BdS V FZ Wz Ll Lm sl sm xl xm w) (hb : Below w.heap.size w w') : BdS V FZ Wz Ll Lm sl sm xl xm w' := by
  have hs := h.siz
  exact ⟨h.gl.keep (fun b hb' => hb.block b (h.gl.lt b hb').2), h.gm.keep (fun b hb' => hb.block b (h.gm.lt b hb').2), h.ne, h.bel.trans (hb.mono (by omega)), Nat.le_trans hs hb.size, range_below h.cl hb (by omega), range_below h.cm hb (by omega), there_below h.tl hb (by omega), there_below h.tm hb (by omega), h.sepL, h.sepM, fun b hz => ⟨(h.zlo b hz).1, Nat.lt_of_lt_of_le (h.zlo b hz).2 hb.size⟩, fun b hz => (hb.block b (h.zlo b hz).2).trans (h.zeq b hz)⟩
theorem BdS.putL {V : World} {FZ : Nat → Prop} {Wz : World} {Ll : List Vl} {Lm : List (ByteArray × Vl)} {sl sm xl xm : Value} {w : World} (h : BdS V FZ Wz Ll Lm sl sm xl xm w) (x : Value) : BdS V FZ Wz Ll Lm sl sm x xm (w.setCells V.heap.size 6 [x]) := by
  refine ⟨h.gl.keep (fun b hb' => heap_setCells _ _ (by have := (h.gl.lt b hb').1; omega) _ _ _), h.gm.keep (fun b hb' => heap_setCells _ _ (by have := (h.gm.lt b hb').1; omega) _ _ _), h.ne, below_setCells _ _ _ _ h.bel (Nat.le_refl _), by rw [size_setCells]; exact h.siz, ?_, ?_, World.there_setCells h.tl _ _ _, World.there_setCells h.tm _ _ _, h.sepL, h.sepM, fun b hz => ⟨(h.zlo b hz).1, by rw [size_setCells]; exact (h.zlo b hz).2⟩, fun b hz => (heap_setCells _ _ (by have := (h.zlo b hz).1; omega) _ _ _).trans (h.zeq b hz)⟩
  · intro j u hu
    by_cases h6 : j = 6
    · subst h6
      obtain rfl : x = u := by simpa [brL] using hu
      rw [Nat.zero_add]
      exact World.cell?_setCell_same _ _ _ (by simpa using h.cl 6 xl rfl)
    · rw [World.cell?_setCells_out _ _ _ _ _ (fun e _ => by show 0 + j < 6 ∨ 6 + 1 ≤ 0 + j; omega)]
      refine h.cl j u ?_
      have hj : j < 8 := by have := (List.getElem?_eq_some_iff.1 hu).1; simpa [brL] using this
      rcases (by omega : j = 0 ∨ j = 1 ∨ j = 2 ∨ j = 3 ∨ j = 4 ∨ j = 5 ∨ j = 7) with rfl | rfl | rfl | rfl | rfl | rfl | rfl <;> exact hu
  · intro j u hu
    rw [World.cell?_setCells_out _ _ _ _ _ (fun e _ => by have e : V.heap.size + 1 = V.heap.size := e; omega)]
    exact h.cm j u hu
theorem BdS.putM {V : World} {FZ : Nat → Prop} {Wz : World} {Ll : List Vl} {Lm : List (ByteArray × Vl)} {sl sm xl xm : Value} {w : World} (h : BdS V FZ Wz Ll Lm sl sm xl xm w) (x : Value) : BdS V FZ Wz Ll Lm sl sm xl x (w.setCells (V.heap.size + 1) 7 [x]) := by
  refine ⟨h.gl.keep (fun b hb' => heap_setCells _ _ (by have := (h.gl.lt b hb').1; omega) _ _ _), h.gm.keep (fun b hb' => heap_setCells _ _ (by have := (h.gm.lt b hb').1; omega) _ _ _), h.ne, below_setCells _ _ _ _ h.bel (by omega), by rw [size_setCells]; exact h.siz, ?_, ?_, World.there_setCells h.tl _ _ _, World.there_setCells h.tm _ _ _, h.sepL, h.sepM, fun b hz => ⟨(h.zlo b hz).1, by rw [size_setCells]; exact (h.zlo b hz).2⟩, fun b hz => (heap_setCells _ _ (by have := (h.zlo b hz).1; omega) _ _ _).trans (h.zeq b hz)⟩
  · intro j u hu
    rw [World.cell?_setCells_out _ _ _ _ _ (fun e _ => by have e : V.heap.size = V.heap.size + 1 := e; omega)]
    exact h.cl j u hu
  · intro j u hu
    by_cases h6 : j = 7
    · subst h6
      obtain rfl : x = u := by simpa [brM] using hu
      rw [Nat.zero_add]
      exact World.cell?_setCell_same _ _ _ (by simpa using h.cm 7 xm rfl)
    · rw [World.cell?_setCells_out _ _ _ _ _ (fun e _ => by show 0 + j < 7 ∨ 7 + 1 ≤ 0 + j; omega)]
      refine h.cm j u ?_
      have hj : j < 8 := by have := (List.getElem?_eq_some_iff.1 hu).1; simpa [brM] using this
      rcases (by omega : j = 0 ∨ j = 1 ∨ j = 2 ∨ j = 3 ∨ j = 4 ∨ j = 5 ∨ j = 6) with rfl | rfl | rfl | rfl | rfl | rfl | rfl <;> exact hu
theorem wpO_bl {V w : World} {FZ : Nat → Prop} {Wz : World} {Ll : List Vl} {Lm : List (ByteArray × Vl)} {sl sm xl xm : Value} {o : Oper} {a : Act} {K : Act → World → Prop} {Q : Exit → Act → World → Prop} (hS : BdS V FZ Wz Ll Lm sl sm xl xm w) (s x : Operand)
    (ho : o.op = .call { callee := .builtin .append, args := #[s, x], argTypes := #[22, 22] }) (hs : a.eval s = sl) (v : Vl) (ds : List Value) (hv : VlC V v ds) (N : Nat) (hN : N = w.heap.size) (hx : a.eval x = .slice (some ⟨N, 0, none⟩) 1 1) (hn : Ll.length + 1 ≤ 1099511627776)
    (h : ∀ g n cap w', BdS V FZ Wz (Ll ++ [v]) Lm (.slice (some ⟨g, 0, none⟩) n cap) sm xl xm w' → n = Ll.length + 1 → K (a.put o.dst (.slice (some ⟨g, 0, none⟩) n cap)) w') : o.wp Tryz.prog a (w.alloc (.cells ds.toArray 29)) K Q := by
  obtain ⟨i, z, hi, hz, hsz, hb, hc⟩ := infoVz
  have hlt4 := hS.gl.lt
  have hlt5 := hS.gm.lt
  have hsi := hS.siz
  have d1 := hv.one
  have hone : ∀ u ∈ ds, u.oneCell' = true := fun u hu => (Array.all_eq_true_iff_forall_mem.1 d1) u (by simpa using hu)
  refine wpO_grj s x ho Tryz.underlying22 hi hz hsz hb hc (by omega) (V.heap.size + 2) Ll sl hs hS.gl v ds hv hv.cells hone N hN hx (by omega) (by unfold maxLen; omega) hsi ?_
  intro g cap w' hg hgr hat
  have hold : ∀ b, b < w.heap.size → sl.ownBlock ≠ some b → w'.heap[b]? = w.heap[b]? := fun b hb hne => by
    rw [hgr.block b (by simp; omega) (fun e => hne e.symm)]
    exact Below.heap_alloc w _ b hb
  have bk : Below V.heap.size V w' := (hS.bel.alloc (by omega) _).grown hgr (by simp; omega) (fun k hk => by have := (hlt4 k hk).1; omega)
  have hsw : w.heap.size ≤ w'.heap.size := by have := hgr.size; simp at this; omega
  have h0 : ∀ b, b < V.heap.size + 2 → w'.heap[b]? = w.heap[b]? := fun b hb => hold b (by omega) (fun e => by have := (hlt4 b e).1; omega)
  refine h g _ cap w' ⟨hg, hS.gm.keep (fun b hb => hold b (hlt5 b hb).2 (fun e => hS.ne b e hb)), ?_, bk, by omega, ?_, ?_, ?_, ?_, ?_, hS.sepM, fun b hz => ⟨(hS.zlo b hz).1, by have := (hS.zlo b hz).2; omega⟩, fun b hz => (hold b (hS.zlo b hz).2 (fun e => hS.sepL b e hz)).trans (hS.zeq b hz)⟩ rfl
  · intro b hb' h5
    have hb' : g = b := by simpa [Value.ownBlock] using hb'
    subst hb'
    rcases hat with hat | hat
    · exact hS.ne _ hat h5
    · have := (hlt5 _ h5).2; omega
  · exact fun j u hu => (cell_blk (h0 _ (by omega)) (0 + j)).trans (hS.cl j u hu)
  · exact fun j u hu => (cell_blk (h0 _ (by omega)) (0 + j)).trans (hS.cm j u hu)
  · exact fun j hj => ⟨by rw [cell_blk (h0 _ (by omega)) (0 + j)]; exact (hS.tl j hj).1, by rw [frozen_blk (h0 _ (by omega)) (0 + j)]; exact (hS.tl j hj).2⟩
  · exact fun j hj => ⟨by rw [cell_blk (h0 _ (by omega)) (0 + j)]; exact (hS.tm j hj).1, by rw [frozen_blk (h0 _ (by omega)) (0 + j)]; exact (hS.tm j hj).2⟩
  · intro b hb' hz
    have hb' : g = b := by simpa [Value.ownBlock] using hb'
    subst hb'
    rcases hat with hat | hat
    · exact hS.sepL _ hat hz
    · have := (hS.zlo _ hz).2; omega
theorem wpO_bm {V w : World} {FZ : Nat → Prop} {Wz : World} {Ll : List Vl} {Lm : List (ByteArray × Vl)} {sl sm xl xm : Value} {o : Oper} {a : Act} {K : Act → World → Prop} {Q : Exit → Act → World → Prop} (hS : BdS V FZ Wz Ll Lm sl sm xl xm w) (s x : Operand)
    (ho : o.op = .call { callee := .builtin .append, args := #[s, x], argTypes := #[27, 27] }) (hs : a.eval s = sm) (q : ByteArray × Vl) (us : List Value) (hq : q.1.size ≤ maxLen) (hv : VlC V q.2 us) (N : Nat) (hN : N = w.heap.size) (hx : a.eval x = .slice (some ⟨N, 0, none⟩) 1 1) (hn : Lm.length + 1 ≤ 1099511627776)
    (h : ∀ g n cap w', BdS V FZ Wz Ll (Lm ++ [q]) sl (.slice (some ⟨g, 0, none⟩) n cap) xl xm w' → n = Lm.length + 1 → K (a.put o.dst (.slice (some ⟨g, 0, none⟩) n cap)) w') : o.wp Tryz.prog a (w.alloc (.cells (Value.string q.1 :: us).toArray 45)) K Q := by
  obtain ⟨i, z, hi, hz, hsz, hb, hc⟩ := infoMz
  have hlt4 := hS.gl.lt
  have hlt5 := hS.gm.lt
  have hsi := hS.siz
  have d1 := one9 q.1 hv
  have hone : ∀ u ∈ (Value.string q.1 :: us), u.oneCell' = true := fun u hu => (Array.all_eq_true_iff_forall_mem.1 d1) u (by simpa using hu)
  refine wpO_grj s x ho Tryz.underlying27 hi hz hsz hb hc (by omega) (V.heap.size + 2) Lm sm hs hS.gm q (Value.string q.1 :: us) ⟨us, rfl, hq, hv⟩ (by simp [hv.cells]) hone N hN hx (by omega) (by unfold maxLen; omega) hsi ?_
  intro g cap w' hg hgr hat
  have hold : ∀ b, b < w.heap.size → sm.ownBlock ≠ some b → w'.heap[b]? = w.heap[b]? := fun b hb hne => by
    rw [hgr.block b (by simp; omega) (fun e => hne e.symm)]
    exact Below.heap_alloc w _ b hb
  have bk : Below V.heap.size V w' := (hS.bel.alloc (by omega) _).grown hgr (by simp; omega) (fun k hk => by have := (hlt5 k hk).1; omega)
  have hsw : w.heap.size ≤ w'.heap.size := by have := hgr.size; simp at this; omega
  have h0 : ∀ b, b < V.heap.size + 2 → w'.heap[b]? = w.heap[b]? := fun b hb => hold b (by omega) (fun e => by have := (hlt5 b e).1; omega)
  refine h g _ cap w' ⟨hS.gl.keep (fun b hb => hold b (hlt4 b hb).2 (fun e => hS.ne b hb e)), hg, ?_, bk, by omega, ?_, ?_, ?_, ?_, hS.sepL, ?_, fun b hz => ⟨(hS.zlo b hz).1, by have := (hS.zlo b hz).2; omega⟩, fun b hz => (hold b (hS.zlo b hz).2 (fun e => hS.sepM b e hz)).trans (hS.zeq b hz)⟩ rfl
  · intro b h4 hb'
    have hb' : g = b := by simpa [Value.ownBlock] using hb'
    subst hb'
    rcases hat with hat | hat
    · exact hS.ne _ h4 hat
    · have := (hlt4 _ h4).2; omega
  · exact fun j u hu => (cell_blk (h0 _ (by omega)) (0 + j)).trans (hS.cl j u hu)
  · exact fun j u hu => (cell_blk (h0 _ (by omega)) (0 + j)).trans (hS.cm j u hu)
  · exact fun j hj => ⟨by rw [cell_blk (h0 _ (by omega)) (0 + j)]; exact (hS.tl j hj).1, by rw [frozen_blk (h0 _ (by omega)) (0 + j)]; exact (hS.tl j hj).2⟩
  · exact fun j hj => ⟨by rw [cell_blk (h0 _ (by omega)) (0 + j)]; exact (hS.tm j hj).1, by rw [frozen_blk (h0 _ (by omega)) (0 + j)]; exact (hS.tm j hj).2⟩
  · intro b hb' hz
    have hb' : g = b := by simpa [Value.ownBlock] using hb'
    subst hb'
    rcases hat with hat | hat
    · exact hS.sepM _ hat hz
    · have := (hS.zlo _ hz).2; omega
theorem BdS.valL {V : World} {FZ : Nat → Prop} {Wz : World} {K : List (ByteArray × Vl)} {Lm : List (ByteArray × Vl)} {sl sm xm : Value} {w : World} (h : BdS V FZ Wz (K.map (·.2)) Lm sl sm sl xm w) (hc : K.length ≤ 1099511627776) : VlC w (lV K) (brL sl) := by
  obtain ⟨xss, h1, h2⟩ := h.gl
  unfold lV VlC
  have hcells := fun (g : Nat) (hg : sl.ownBlock = some g) => h1.cells hg
  rcases h1.2 with ⟨rfl, h0⟩ | ⟨g, cap, cur, rfl, hg, hh, hc1, hc2, r⟩
  · have hl0 : K.map (·.2) = [] := List.length_eq_zero_iff.1 h0
    rw [hl0]
    exact ⟨none, 0, 0, none, 0, 0, rfl, by simp only [Vls.of]; unfold VlsAt; rfl, by unfold FlsAt; rfl, Nat.le_refl _, Nat.le_refl _, fun _ => rfl, fun _ => rfl, by decide, by decide, Nat.zero_le _, Nat.zero_le _, Nat.zero_le _, Nat.zero_le _⟩
  · refine ⟨some ⟨g, 0, none⟩, _, cap, none, 0, 0, rfl, GrJ.readV g 0 w h2 h.bel (fun j u hu => by have := hcells g rfl j u hu; rw [Addr.add_mid] at this; exact this), by unfold FlsAt; rfl, hc1, Nat.le_refl _, fun e => (by cases e), fun _ => rfl, by decide, by decide, Nat.zero_le _, Nat.zero_le _, hc2, Nat.zero_le _⟩
theorem BdS.valM {V : World} {FZ : Nat → Prop} {Wz : World} {K : List (ByteArray × Vl)} {Ll : List Vl} {sl sm xl : Value} {w : World} (h : BdS V FZ Wz Ll K sl sm xl sm w) : VlC w (oV K) (brM sm) ∧ ∃ aj cj, sm = .slice aj K.length cj ∧ K.length ≤ cj ∧ FlsAt w (Fls.of K) aj K.length := by
  obtain ⟨xss, h1, h2⟩ := h.gm
  have hcells := fun (g : Nat) (hg : sm.ownBlock = some g) => h1.cells hg
  rcases h1.2 with ⟨rfl, h0⟩ | ⟨g, cap, cur, rfl, hg, hh, hc1, hc2, r⟩
  · have hl0 : K = [] := List.length_eq_zero_iff.1 h0
    subst hl0
    refine ⟨?_, none, 0, rfl, Nat.le_refl _, by simp only [Fls.of]; unfold FlsAt; rfl⟩
    unfold oV VlC
    exact ⟨none, 0, 0, none, 0, 0, rfl, by unfold VlsAt; rfl, by simp only [Fls.of]; unfold FlsAt; rfl, Nat.le_refl _, Nat.le_refl _, fun _ => rfl, fun _ => rfl, by decide, by decide, Nat.zero_le _, Nat.zero_le _, Nat.zero_le _, Nat.zero_le _⟩
  · have hf : FlsAt w (Fls.of K) (some ⟨g, 0, none⟩) K.length := GrJ.readM g 0 w h2 h.bel (fun j u hu => by have := hcells g rfl j u hu; rw [Addr.add_mid] at this; exact this)
    refine ⟨?_, some ⟨g, 0, none⟩, cap, rfl, hc1, hf⟩
    unfold oV VlC
    exact ⟨none, 0, 0, some ⟨g, 0, none⟩, _, cap, rfl, by unfold VlsAt; rfl, hf, Nat.le_refl _, hc1, fun _ => rfl, fun e => (by cases e), by decide, by decide, Nat.zero_le _, Nat.zero_le _, Nat.zero_le _, hc2⟩
theorem BdS.new (V : World) : BdS V (fun _ => False) V [] [] (.slice none 0 0) (.slice none 0 0) (.slice none 0 0) (.slice none 0 0) ((V.alloc (.cells (brL (.slice none 0 0)).toArray 29)).alloc (.cells (brM (.slice none 0 0)).toArray 29)) := by
  obtain ⟨w1, e1⟩ : ∃ w1, w1 = V.alloc (.cells (brL (.slice none 0 0)).toArray 29) := ⟨_, rfl⟩
  obtain ⟨w2, e2⟩ : ∃ w2, w2 = w1.alloc (.cells (brM (.slice none 0 0)).toArray 29) := ⟨_, rfl⟩
  rw [← e1, ← e2]
  have s1 : w1.heap.size = V.heap.size + 1 := by rw [e1]; simp
  have s2 : w2.heap.size = V.heap.size + 1 + 1 := by rw [e2]; simp [s1]
  have b1 : Below V.heap.size V w1 := by rw [e1]; exact (Below.refl _ _).alloc (Nat.le_refl _) _
  have b2 : Below w1.heap.size w1 w2 := by rw [e2]; exact (Below.refl _ _).alloc (Nat.le_refl _) _
  refine ⟨GrJ.nil, GrJ.nil, fun b h => by simp [Value.ownBlock] at h, b1.trans (b2.mono (by omega)), by omega, ?_, ?_, ?_, ?_, fun b h => by simp [Value.ownBlock] at h, fun b h => by simp [Value.ownBlock] at h, fun b h => h.elim, fun b h => h.elim⟩
  · have h : w1.rangeAt V.heap.size 0 (brL (.slice none 0 0)) := fun j u hu => by
      rw [e1, Nat.zero_add, World.cell?_alloc_at _ _ _ _ rfl]
      simpa using hu
    exact range_below h b2 (by omega)
  · intro j u hu
    rw [e2, Nat.zero_add, World.cell?_alloc_at _ _ _ _ s1.symm]
    simpa using hu
  · have h : w1.there V.heap.size 0 8 := by rw [e1]; exact there_new rfl
    exact there_below h b2 (by omega)
  · have h : w2.there w1.heap.size 0 8 := by rw [e2]; exact there_new rfl
    rw [s1] at h
    exact h
/-- a block that is not the lists' stays -/
theorem BdS.with {V : World} {Ll : List Vl} {Lm : List (ByteArray × Vl)} {sl sm xl xm : Value} {wr w2 w3 : World} (h : BdS V (fun _ => False) V Ll Lm sl sm xl xm wr) (b2 : Below wr.heap.size wr w2) (b3 : Below w2.heap.size w2 w3) : BdS V (fun b => wr.heap.size ≤ b ∧ b < w2.heap.size) w2 Ll Lm sl sm xl xm w3 := by
  have h3 := h.below (b2.trans (b3.mono b2.size))
  have hs := h.siz
  have s3 := b3.size
  exact ⟨h3.gl, h3.gm, h3.ne, h3.bel, h3.siz, h3.cl, h3.cm, h3.tl, h3.tm, fun b hb hz => by have := (h.gl.lt b hb).2; omega, fun b hb hz => by have := (h.gm.lt b hb).2; omega, fun b hz => by omega, fun b hz => b3.block b hz.2⟩
theorem BdS.plain {V Wz : World} {FZ : Nat → Prop} {Ll : List Vl} {Lm : List (ByteArray × Vl)} {sl sm xl xm : Value} {w : World} (h : BdS V FZ Wz Ll Lm sl sm xl xm w) : BdS V (fun _ => False) V Ll Lm sl sm xl xm w :=
  ⟨h.gl, h.gm, h.ne, h.bel, h.siz, h.cl, h.cm, h.tl, h.tm, fun b _ h => h, fun b _ h => h, fun b h => h.elim, fun b h => h.elim⟩
/-- the bytes of an own row, as a text, where its block stays -/
theorem own_textK {w : World} {B n : Nat} {r : Value} {l : List UInt8} (h : w.ownsRow B 5 1 r n (Lib.byteCells l)) (hn : n = l.length) :
    ∃ a c, r = .slice a n c ∧ ∀ W, (∀ b, B ≤ b → b < w.heap.size → W.heap[b]? = w.heap[b]?) → (convert 34 9 (.slice a n c)).run Tryz.prog W = .ok (.string ⟨l.toArray⟩) W := by
  have hlt := h.lt
  obtain ⟨a, c, hr, hc⟩ := own_text h hn
  refine ⟨a, c, hr, fun W hW => ?_⟩
  have h2 : W.ownsRow B 5 1 r n (Lib.byteCells l) := own_keep h (fun b hb => hW b (hlt b hb).1 (hlt b hb).2)
  obtain ⟨a', c', hr', hc'⟩ := own_text h2 hn
  rw [hr] at hr'
  simp only [Value.slice.injEq] at hr'
  obtain ⟨rfl, -, rfl⟩ := hr'
  exact hc' W (Below.refl _ _)
end Go.Proofs.YtechaplindbfoaaGreatDoor.jsn
