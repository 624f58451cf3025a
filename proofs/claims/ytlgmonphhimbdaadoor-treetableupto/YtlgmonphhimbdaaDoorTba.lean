import Derived.Test.YtlgmonphhimbdaaDoorTb9
namespace Go.Proofs.YtlgmonphhimbdaaDoor.tab
open Go.ChangeShapes Go.WideShapes Go.ChangeAt Go.RowKit Go.Maps Go.Shelf
open wk
attribute [local go_sem] Oper.semAt_some
set_option linter.unusedVariables false
set_option linter.unusedSimpArgs false
def encK (xs : List (ByteArray × Int)) : List Value := xs.map (fun x => .string x.1)
/-- what Keys answers -/
def KyPost (rs : List Rw) (w : World) (e : Ending) (w' : World) : Prop :=
  ∃ c, e = .returned (.slice (some ⟨w.heap.size, 0, none⟩) rs.length c) ∧ w'.ownsRow w.heap.size 9 1 (.slice (some ⟨w.heap.size, 0, none⟩) rs.length c) rs.length (encK (ents rs)) ∧ Below w.heap.size w w'
theorem own_blk {w w' : World} {base : Nat} {e : TypeId} {size g n c : Nat} {xs : List Value} (h : w.ownsRow base e size (.slice (some ⟨g, 0, none⟩) n c) n xs) (hb : w'.heap[g]? = w.heap[g]?) : w'.ownsRow base e size (.slice (some ⟨g, 0, none⟩) n c) n xs := by
  refine ⟨h.1, ?_⟩
  rcases h.2 with ⟨h1, h2⟩ | ⟨g', cap, cur, h1, h2, h3, h4⟩
  · exact .inl ⟨h1, h2⟩
  · cases h1
    exact .inr ⟨g, c, cur, rfl, h2, hb.trans h3, h4⟩
theorem news1 (w : World) (s : ByteArray) (t : TypeId) : ∀ j u, [Value.string s][j]? = some u → (w.alloc (.cells #[.string s] t)).cell? ((⟨w.heap.size, 0, none⟩ : Addr).add j) = some u := by
  intro j u hj
  match j, hj with
  | 0, hj => simp at hj; subst hj; simp [Addr.add]
  | (j + 1), hj => simp at hj
/-- what the loop of Keys keeps -/
structure KyI (w : World) (G kb q : Nat) (xs : List (ByteArray × Int)) (W : World) : Prop where
  cell : W.cell? ⟨kb, 0, none⟩ = some (.slice (some ⟨G, 0, none⟩) xs.length q)
  fr : W.frozen? ⟨kb, 0, none⟩ = false
  own : W.ownsRow G 9 1 (.slice (some ⟨G, 0, none⟩) xs.length q) xs.length (encK xs)
  bel : Below G w W
theorem KyI.move {w W W' : World} {G kb q : Nat} {xs : List (ByteArray × Int)} (h : KyI w G kb q xs W) (hs : W.heap.size ≤ W'.heap.size) (ho : W'.os = W.os) (ht : W'.tape = W.tape) (hu : W'.output = W.output) (hb : ∀ k, k < W.heap.size → IsC W k → W'.heap[k]? = W.heap[k]?) (hl : ∀ k, k < G → W'.heap[k]? = W.heap[k]?) : KyI w G kb q xs W' := by
  have c1 : IsC W kb := by
    have := h.cell
    unfold World.cell? at this
    cases hh : W.heap[kb]? with
    | none => simp [hh] at this
    | some o => cases o <;> simp [hh] at this; exact ⟨_, _, _, hh⟩
  have c2 : IsC W G := by
    rcases h.own.2 with ⟨h1, -⟩ | ⟨g', cap, cur, h1, -, h3, -⟩
    · cases h1
    · cases h1; exact ⟨_, _, _, h3⟩
  exact ⟨(World.cell?_of_block (a := ⟨kb, 0, none⟩) (hb kb c1.lt c1)).trans h.cell, (World.frozen?_of_block (a := ⟨kb, 0, none⟩) (hb kb c1.lt c1)).trans h.fr, own_blk h.own (hb G c2.lt c2), h.bel.trans ⟨ho, ht, hu, hs, hl⟩⟩
set_option maxRecDepth 100000 in
set_option maxHeartbeats 1000000 in
theorem keys_tb {w : World} {B : Nat} {X : Nat → Prop} {b : Nat} {M : Option Nat} {rs : List Rw} {nx : Nat} (h : Tb w B X b M rs nx) (hn : rs.length ≤ 1099511627776) :
    Calls Tryd.prog 20 #[.pointer (some ⟨b, 0, none⟩)] w (KyPost rs w) := by
  obtain ⟨i0, hi0, hz0, hz1, hz2⟩ := info_parts infoS
  refine (callsIn_wide (n := 8)).1 ?_
  refine callsIn_of_wp_marks Tryd.func20 rfl trivial ?_ rfl
  simp only [Tryd.ntmps20, List.size_toArray, List.length_cons, List.length_nil, Nat.reduceAdd, Nat.reduceSub, Array.replicate_succ, Array.replicate_zero, List.push_toArray, List.append_toArray, List.nil_append, List.cons_append]
  have LN := hide (len_tb h)
  have HH := hide h
  clear h
  obtain ⟨q, hq⟩ : ∃ q, q = rs.length := ⟨_, rfl⟩
  rw [← hq] at LN
  have hqb : q ≤ 1099511627776 := by omega
  have HQ := hide hq
  have HN := hide hn
  clear hq hn
  gi_wp2_with fail
  refine ⟨trivial, (callsIn_wide.2 (unhide LN)).mono ?_⟩
  rintro e w0 ⟨rfl, hw0⟩
  subst w0
  gi_wp2_with ((gi_at_make; refine wpListIn_make_own _ rfl _ _ 52 rfl w.heap.size 9 i0 _ 1 Tryd.underlying52 hi0 hz0 hz1 .i64 .i64 q q rfl rfl rfl (by rw [hz2]; omega) (by simp only [maxLen]; omega) (Nat.le_refl _) ?_; intro w1 ho1 hg1))
  refine ⟨trivial, (all_any Fence.wide 7 trivial rfl _ _).mono ?_⟩
  rintro e w' ⟨rfl, rfl⟩
  gi_wp2_with fail
  have hw0 : ∃ W0, ((w1.alloc (Obj.cells #[Value.slice (some { block := w.heap.size, off := 0 }) 0 q] 52)).alloc (Obj.cells #[Value.pointer (some ⟨b, 0, none⟩)] 23)) = W0 ∧ W0.heap.size = w1.heap.size + 2 ∧ KyI w w.heap.size w1.heap.size q [] W0 ∧ W0.cell? ⟨w1.heap.size + 1, 0, none⟩ = some (.pointer (some ⟨b, 0, none⟩)) := by
    have sG := ho1.lt w.heap.size rfl
    refine ⟨_, rfl, by simp, ⟨by simp, by simp, own_blk ho1 ((Below.heap_alloc _ _ _ (by simp; omega)).trans (Below.heap_alloc _ _ _ (by omega))), (((Below.refl _ _).grown hg1 (Nat.le_refl _) (fun q hq => by cases hq)).alloc hg1.size _).alloc (by have := hg1.size; simp; omega) _⟩, ?_⟩
    have e : w1.heap.size + 1 = (w1.alloc (Obj.cells #[Value.slice (some { block := w.heap.size, off := 0 }) 0 q] 52)).heap.size := by simp
    rw [e]
    simp
  obtain ⟨W0, e0, s0, K0, k1⟩ := hw0
  rw [e0]
  have sG := (ho1.lt w.heap.size rfl).2
  clear e0 LN hg1 ho1
  have bW := K0.bel
  refine wpT_H (α := ByteArray × Int) rfl (by decide) (gf := 28) (lb := #[.pointer (some ⟨w1.heap.size + 1, 0, none⟩)]) (encs := encE) (Rd := RdE (W0.heap.size + 2)) (C := CE) (Kp := KpE (W0.heap.size + 2)) (S := fun xs => xs = ents rs) (Sp := SpE (ents rs)) (Nx := NxE (ents rs)) rfl trivial (enters_of Tryd.func28 (by kernel_rfl) rfl)
    ?seq (fun A A' hc k _ h2 h3 => hc.block k h3) (fun x {A A' A''} h1 h2 => ⟨Nat.le_trans h1.1 h2.1, h2.2.trans h1.2⟩) (fun x W o o' _ => ⟨by simp, World.putObj_heap_other (by omega)⟩) (fun x => rfl)
    (KyI w w.heap.size w1.heap.size q) (fun _ _ _ => False) ?_ (fun c pre A A' h _ => h) ?own (fun c s A A' row h _ _ => h) K0 (fun x a' W => W0.heap.size + 4 ≤ W.heap.size ∧ a' = { tmps := #[.pointer (some ⟨b, 0, none⟩), undef, .slice none 0 0, .pointer (some ⟨w1.heap.size, 0, none⟩), .string x.1, .pointer (some ⟨b, 0, none⟩), .int .i64 (q : Nat), .slice (some ⟨w.heap.size, 0, none⟩) 0 q, .pointer (some ⟨b, 0, none⟩), .func (.func 28) #[] #[.pointer (some ⟨w1.heap.size + 1, 0, none⟩)], .string x.1, .int .i64 x.2, undef, undef, undef, undef, undef], defers := [] }) ?_ ?assign ?body ?done ?stop
  case seq =>
    intro W1 hb hs
    have := all_seq ((unhide HH).kx (Y := fun k => w.heap.size ≤ k) (w' := W1) ⟨(hb.os).trans bW.os, hb.tape.trans bW.tape, hb.output.trans bW.output, Nat.le_trans bW.size hb.size, fun k hk hx => (hb.block k (by have := bW.size; omega)).trans (bW.block k (by omega))⟩ (fun k hk hy => by have := ((unhide HH).lo k hk).2; have : w.heap.size ≤ k := hy; omega)) (unhide HN) 7 (by decide) (Bo := w1.heap.size + 1) ((hb.cell (p := ⟨w1.heap.size + 1, 0, none⟩) (by show w1.heap.size + 1 < W0.heap.size; omega)).trans k1)
    rw [hs] at this
    exact this
  case assign =>
    intro l pre x W K hI hR hN hK
    have HI := hide hI
    have HRd := hide hR
    clear hI hR hN
    unfold encE
    gi_wp2
    exact hK _ _ (KeepsFrom.refl _ _) ⟨Nat.le_refl _, rfl⟩ (unhide HI) ⟨unhide HRd, rfl⟩
  case stop =>
    rintro D c pre W _ _ _ h _
    exact h.elim
  case own =>
    intro xs W W' row hI hg hr
    exact hI.move hg.size hg.os hg.tape hg.output (fun k hk hc => hg.block k hk (fun e => by
      obtain ⟨_, o, ho, hno⟩ := hr k e.symm
      obtain ⟨cs, t, fr, hc⟩ := hc
      rw [hc] at ho
      cases ho
      cases hno)) (fun k hk => hg.block k (by have := hI.bel.size; omega) (fun e => by have := (hr k e.symm).1; have := bW.size; omega))
  case body =>
    rintro l pre x a' W hl ⟨r1, hr1⟩ hI ⟨hsz, rfl⟩ ⟨k, hk, hp, hx⟩
    have hpl : pre.length < q := by rw [hp, List.length_take, unhide HQ]; rw [ents_len] at hk ⊢; omega
    have c0 := hI.cell
    have f0 := hI.fr
    have HI := hide hI
    have hown := hI.own
    obtain ⟨m, hm⟩ : ∃ m, m = pre.length := ⟨_, rfl⟩
    rw [← hm] at c0 hown hpl
    have HM := hide hm
    clear hI hp hx hk hm
    have sW0 := bW.size
    have c1 := fun o => (World.cell?_alloc_lt W o ⟨w1.heap.size, 0, none⟩ (by show w1.heap.size < W.heap.size; omega)).trans c0
    have f1 := fun o => (World.frozen?_alloc_old W o ⟨w1.heap.size, 0, none⟩ (by show ¬ w1.heap.size = W.heap.size; omega)).trans f0
    have nG : (some w1.heap.size : Option Nat) ≠ some w.heap.size := by simp; omega
    gi_wp2_with (gi_at_builtin; refine wpListIn_append_fits _ rfl _ _ 52 rfl w.heap.size 9 i0 1 Tryd.underlying52 hi0 hz1 w.heap.size m q (encK pre) (by rfl) (own_blk hown (Below.heap_alloc _ _ _ (by have := bW.size; omega))) ⟨W.heap.size, 0, none⟩ 1 1 [.string x.1] (by rfl) rfl (news1 _ _ _) (by simp [Value.oneCell']) (by omega) ?_; intro W2 hown2 hg2; have c2 := (hg2.cell_far ⟨w1.heap.size, 0, none⟩ (by simp; omega) nG).trans (c1 _); have f2 := (hg2.frozen_far ⟨w1.heap.size, 0, none⟩ (by simp; omega) nG).trans (f1 _); clear c0 f0 c1 f1)
    have hI := unhide HI
    have s2 := hg2.size
    rw [World.size_alloc] at s2
    have hob : ∀ k, k < W.heap.size → k ≠ w.heap.size → k ≠ w1.heap.size → (W2.setCell ⟨w1.heap.size, 0, none⟩ (.slice (some ⟨w.heap.size, 0, none⟩) (m + 1) q)).heap[k]? = W.heap[k]? := fun k h1 h2 h3 => (Below.heap_setCell _ ⟨w1.heap.size, 0, none⟩ _ _ h3).trans ((hg2.block k (by simp; omega) (by simp; omega)).trans (Below.heap_alloc _ _ _ h1))
    refine ⟨⟨by simp; omega, fun k o hk ho hno => ?_⟩, ⟨by simp; omega, hob _ (by omega) (by omega) (by omega)⟩, ⟨?_, ?_, ?_, ?_⟩⟩
    · exact (hob k (Array.getElem?_eq_some_iff.1 ho).1 (by omega) (by omega)).trans ho
    · rw [List.length_append, ← unhide HM]
      exact World.cell?_setCell_same _ _ _ c2
    · exact (World.frozen?_setCell _ _ _ _).trans f2
    · rw [List.length_append, ← unhide HM]
      have e : encK (pre ++ [x]) = encK pre ++ [.string x.1] := by simp [encK]
      rw [e]
      exact own_blk hown2 (Below.heap_setCell _ ⟨w1.heap.size, 0, none⟩ _ _ (by show w.heap.size ≠ w1.heap.size; omega))
    · exact ((hI.bel.alloc hI.bel.size _).grown hg2 (by simp; omega) (fun k e => by cases e; exact Nat.le_refl _)).setCell (p := ⟨w1.heap.size, 0, none⟩) (by show w.heap.size ≤ w1.heap.size; omega) _
  case done =>
    rintro D xs W hD1 hD2 rfl hI hK
    have c0 := hI.cell
    rw [ents_len, ← unhide HQ] at c0
    have HI := hide hI
    clear hI
    simp only
    gi_wp2
    refine ⟨by simp, .inl ⟨_, _, rfl, run_takeDeferred hK, ?_⟩⟩
    have hI := unhide HI
    have hw := hI.own
    rw [ents_len] at hw
    rw [unhide HQ] at *
    exact ⟨_, results_tmp rfl _ _ _, _, rfl, own_blk hw (World.putObj_heap_other (by have := bW.size; omega)), hI.bel.trans (belowK_b (w := w) (Nat.le_refl _) W D _ _ (by have := bW.size; omega) hK rfl rfl)⟩
  case refine_1 =>
    intro pre A A' hI hc
    exact hI.move hc.size hc.os hc.tape hc.output (fun k hk _ => hc.block k hk) (fun k hk => hc.block k (by have := hI.bel.size; omega))
  case refine_2 =>
    intro x a' s W W' row h hg hr
    exact ⟨Nat.le_trans h.1 hg.size, h.2⟩
end Go.Proofs.YtlgmonphhimbdaaDoor.tab
