import Derived.Test.YthpcpminikmcbaaTft8
import Derived.Test.YthpcpminikmcbaaTft5
import Derived.Shelf.Spec.SlicesGrow
import Derived.Test.YthpcpminikmcbaaProg
import Derived.Test.YthpcpminikmcbaaTft6
import Derived.Laws.AppendOwnNone
namespace Go.Proofs.Ythpcpminikmcbaa.og
open Go.ChangeShapes Go.WideShapes Go.ChangeAt Go.RowKit
open vl hiding cB cFl cS cF cI cK cIt
set_option linter.unusedVariables false
set_option linter.unusedSimpArgs false
/-- a new list that grows: what its elements' cells are -/
def GrV {E : Type} (R : E → List Value → Prop) (t : TypeId) (size : Nat) (B : Nat) (l : List E) (sl : Value) (w : World) : Prop := ∃ xss : List (List Value), w.ownsRow B t size sl l.length xss.flatten ∧ P2 R l xss
theorem P2.snoc {α β : Type} {R : α → β → Prop} {a : α} {b : β} (hab : R a b) : ∀ {l : List α} {r : List β}, P2 R l r → P2 R (l ++ [a]) (r ++ [b])
  | [], [], _ => ⟨hab, trivial⟩
  | _ :: _, _ :: _, h => ⟨h.1, P2.snoc hab h.2⟩
  | [], _ :: _, h => h.elim
  | _ :: _, [], h => h.elim
theorem GrV.nil {E : Type} {R : E → List Value → Prop} {t : TypeId} {size B : Nat} {w : World} : GrV R t size B [] (.slice none 0 0) w := ⟨[], ⟨by simp, .inl ⟨rfl, rfl⟩⟩, trivial⟩
theorem GrV.kept {E : Type} {R : E → List Value → Prop} {t : TypeId} {size B : Nat} {l : List E} {sl : Value} {w w' : World} {row : Option Nat} (h : GrV R t size B l sl w) (hg : w.grownBy w' row) (hne : sl.ownBlock = none ∨ sl.ownBlock ≠ row) : GrV R t size B l sl w' := by
  obtain ⟨xss, h1, h2⟩ := h
  exact ⟨xss, h1.kept hg hne, h2⟩
theorem GrV.lt {E : Type} {R : E → List Value → Prop} {t : TypeId} {size B : Nat} {l : List E} {sl : Value} {w : World} (h : GrV R t size B l sl w) : ∀ k, sl.ownBlock = some k → B ≤ k ∧ k < w.heap.size := by
  obtain ⟨xss, h1, h2⟩ := h
  exact h1.lt
theorem wp_grv {E : Type} {R : E → List Value → Prop} {P : Program} {t e : TypeId} {size bytes : Nat} {i : TypeInfo} {z : Value} {w : World} {ops : Array Oper} {rest : List Oper} {o : Oper} {a : Act} {Q : Exit → Act → World → Prop} (hgd : o.guard = none) (s x : Operand)
    (ho : o.op = .call { callee := .builtin .append, args := #[s, x], argTypes := #[t, t] }) (ht : P.underlying t = some (.slice e)) (hi : P.info? e = some i) (hz : i.zero = some z)
    (hsize : i.size = size) (hby : i.bytes = bytes) (hzs : z.cells.size = size) (hsz : 0 < size)
    (B : Nat) (l : List E) (sl : Value) (hs : a.eval s = sl) (hg : GrV R e size B l sl w) (v : E) (ds : List Value) (hv : R v ds) (hl : ds.length = size) (h1 : ∀ u ∈ ds, u.oneCell' = true)
    (N : Nat) (hN : N = w.heap.size) (hx : a.eval x = .slice (some ⟨N, 0, none⟩) 1 1) (hbytes : (l.length + 1) * bytes ≤ 140737488355328) (h63 : l.length + 1 ≤ maxLen) (hB : B ≤ w.heap.size)
    (h : ∀ g cap w', GrV R e size B (l ++ [v]) (.slice (some ⟨g, 0, none⟩) (l.length + 1) cap) w' → (w.alloc (.cells ds.toArray e)).grownBy w' sl.ownBlock → (sl.ownBlock = some g ∨ g = w.heap.size + 1) → g < w'.heap.size → wpList P ops Q rest (a.put o.dst (.slice (some ⟨g, 0, none⟩) (l.length + 1) cap)) w') : wpList P ops Q (o :: rest) a (w.alloc (.cells ds.toArray e)) := by
  subst hN
  obtain ⟨xss, hrow, hol⟩ := hg
  refine wpList_append_lies _ hgd s x t ho B e i z size bytes ht hi hz hsize hby hzs hsz sl l.length xss.flatten hs (World.ownsRow.alloc hrow _) ⟨w.heap.size, 0, none⟩ 1 1 ds hx (by rw [hl]; omega) (fun j u hu => by
    rw [Addr.add_mid, Nat.zero_add, World.cell?_alloc_at _ _ _ _ rfl]; simpa using hu) h1 (by omega) h63 hbytes (by simp; omega) (w.heap.size + 1) (by simp) ?_
  intro g cap w' hrow' hgr hat hlt
  exact h g cap w' ⟨xss ++ [ds], by simpa using hrow', hol.snoc hv⟩ hgr hat hlt
theorem GrV.read {W : World} : ∀ {l : List Vl} {xss : List (List Value)} (p off : Nat) (w : World), P2 (fun v cs => VlC W v cs) l xss → Below W.heap.size W w → (∀ j u, xss.flatten[j]? = some u → w.cell? ⟨p, off + j, none⟩ = some u) → VlsAt w (Vls.of l) (some ⟨p, off, none⟩) l.length
  | [], [], p, off, w, h, hb, hc => by
    simp only [Vls.of]
    unfold VlsAt
    rfl
  | v :: r, cs :: xss, p, off, w, h, hb, hc => by
    have h8 := h.1.cells
    simp only [Vls.of]
    unfold VlsAt
    refine ⟨p, off, r.length, cs, rfl, rfl, fun j u hu => hc j u ?_, VlC.below hb _ _ h.1, GrV.read p (off + 8) w h.2 hb (fun j u hu => ?_)⟩
    · rw [List.flatten_cons, List.getElem?_append_left (List.getElem?_eq_some_iff.1 hu).1]; exact hu
    · rw [show off + 8 + j = off + (8 + j) by omega]
      refine hc (8 + j) u ?_
      rw [List.flatten_cons, List.getElem?_append_right (by omega), h8]
      simpa using hu
  | [], _ :: _, p, off, w, h, _, _ => h.elim
  | _ :: _, [], p, off, w, h, _, _ => h.elim
theorem GrV.vals {W w : World} {B : Nat} {l : List Vl} {sl : Value} (h : GrV (fun v cs => VlC W v cs) 27 8 B l sl w) (hb : Below W.heap.size W w) : ∃ aj cj, sl = .slice aj l.length cj ∧ VlsAt w (Vls.of l) aj l.length := by
  obtain ⟨xss, h1, h2⟩ := h
  have hc := fun (g : Nat) (hg : sl.ownBlock = some g) => h1.cells hg
  rcases h1.2 with ⟨rfl, h0⟩ | ⟨g, cap, cur, rfl, hg, hh, hc1, hc2, r⟩
  · have hl0 : l = [] := List.length_eq_zero_iff.1 h0
    subst hl0
    exact ⟨none, 0, rfl, by simp only [Vls.of]; unfold VlsAt; rfl⟩
  · exact ⟨_, _, rfl, GrV.read g 0 w h2 hb (fun j u hu => by have := hc g rfl j u hu; rw [Addr.add_mid] at this; exact this)⟩
/-- the two lists of Children as they grow -/
structure ChS (W : World) (l4 : List (List Value)) (l5 : List Vl) (s4 s5 : Value) (w : World) : Prop where
  g4 : GrV (fun s cs => cs = s) 34 3 W.heap.size l4 s4 w
  g5 : GrV (fun v cs => VlC W v cs) 27 8 W.heap.size l5 s5 w
  ne : ∀ b, s4.ownBlock = some b → s5.ownBlock ≠ some b
  bel : Below W.heap.size W w
theorem ChS.nil (W : World) : ChS W [] [] (.slice none 0 0) (.slice none 0 0) W := ⟨GrV.nil, GrV.nil, fun b h => by simp [Value.ownBlock] at h, Below.refl _ _⟩
theorem infoSz : ∃ i z, Try.prog.info? 34 = some i ∧ i.zero = some z ∧ i.size = 3 ∧ i.bytes = 32 ∧ z.cells.size = 3 := by
  have hin : (Try.prog.info? 34).map (fun i => (i.bytes, i.size, i.zero.isSome, (i.zero.map (fun z => z.cells.size)))) = some (32, 3, true, some 3) := by kernel_rfl
  cases hq : Try.prog.info? 34 with
  | none => simp [hq] at hin
  | some i =>
    simp [hq] at hin
    obtain ⟨h1, h2, h3, z, hz, h4⟩ := hin
    exact ⟨i, z, rfl, hz, h2, h1, h4⟩
theorem wp_put4 {W w : World} {l4 : List (List Value)} {l5 : List Vl} {s4 s5 : Value} {ops : Array Oper} {rest : List Oper} {o : Oper} {a : Act} {Q : Exit → Act → World → Prop} (hS : ChS W l4 l5 s4 s5 w) (hgd : o.guard = none) (s x : Operand)
    (ho : o.op = .call { callee := .builtin .append, args := #[s, x], argTypes := #[29, 29] }) (hs : a.eval s = s4) (ds : List Value) (hl : ds.length = 3) (h1 : ∀ u ∈ ds, u.oneCell' = true) (N : Nat) (hN : N = w.heap.size) (hx : a.eval x = .slice (some ⟨N, 0, none⟩) 1 1) (hn : l4.length + 1 ≤ 1256584717458)
    (h : ∀ g n cap w', ChS W (l4 ++ [ds]) l5 (.slice (some ⟨g, 0, none⟩) n cap) s5 w' → wpList Try.prog ops Q rest (a.put o.dst (.slice (some ⟨g, 0, none⟩) n cap)) w') : wpList Try.prog ops Q (o :: rest) a (w.alloc (.cells ds.toArray 34)) := by
  obtain ⟨i, z, hi, hz, hsz, hb, hc⟩ := infoSz
  have hlt4 := hS.g4.lt
  have hlt5 := hS.g5.lt
  refine wp_grv hgd s x ho Try.underlying29 hi hz hsz hb hc (by omega) W.heap.size l4 s4 hs hS.g4 ds ds rfl hl h1 N hN hx (by omega) (by unfold maxLen; omega) hS.bel.size ?_
  intro g cap w' hg hgr hat hlt
  refine h g _ cap w' ⟨hg, ?_, ?_, ?_⟩
  · refine (hS.g5.kept (World.grownBy_alloc w _ none) (by cases hv : s5.ownBlock <;> simp)).kept hgr ?_
    cases h5 : s5.ownBlock with
    | none => exact .inl rfl
    | some b => exact .inr (fun e => hS.ne b e.symm h5)
  · intro b hb' h5
    have hb' : g = b := by simpa [Value.ownBlock] using hb'
    subst hb'
    rcases hat with hat | hat
    · exact hS.ne _ hat h5
    · have := (hlt5 _ h5).2; omega
  · exact (hS.bel.alloc hS.bel.size _).grown hgr (by have := hS.bel.size; simp; omega) (fun k hk => (hlt4 k hk).1)
theorem wp_put5 {W w : World} {l4 : List (List Value)} {l5 : List Vl} {s4 s5 : Value} {ops : Array Oper} {rest : List Oper} {o : Oper} {a : Act} {Q : Exit → Act → World → Prop} (hS : ChS W l4 l5 s4 s5 w) (hgd : o.guard = none) (s x : Operand)
    (ho : o.op = .call { callee := .builtin .append, args := #[s, x], argTypes := #[24, 24] }) (hs : a.eval s = s5) (v : Vl) (ds : List Value) (hv : VlC W v ds) (N : Nat) (hN : N = w.heap.size) (hx : a.eval x = .slice (some ⟨N, 0, none⟩) 1 1) (hn : l5.length + 1 ≤ 1256584717458)
    (h : ∀ g n cap w', ChS W l4 (l5 ++ [v]) s4 (.slice (some ⟨g, 0, none⟩) n cap) w' → wpList Try.prog ops Q rest (a.put o.dst (.slice (some ⟨g, 0, none⟩) n cap)) w') : wpList Try.prog ops Q (o :: rest) a (w.alloc (.cells ds.toArray 27)) := by
  obtain ⟨i, z, hi, hz, hsz, hb, hc⟩ := infoVz
  have hlt4 := hS.g4.lt
  have hlt5 := hS.g5.lt
  have d1 := hv.one
  have hone : ∀ u ∈ ds, u.oneCell' = true := fun u hu => (Array.all_eq_true_iff_forall_mem.1 d1) u (by simpa using hu)
  refine wp_grv hgd s x ho Try.underlying24 hi hz hsz hb hc (by omega) W.heap.size l5 s5 hs hS.g5 v ds hv hv.cells hone N hN hx (by omega) (by unfold maxLen; omega) hS.bel.size ?_
  intro g cap w' hg hgr hat hlt
  refine h g _ cap w' ⟨?_, hg, ?_, ?_⟩
  · refine (hS.g4.kept (World.grownBy_alloc w _ none) (by cases hv : s4.ownBlock <;> simp)).kept hgr ?_
    cases h4 : s4.ownBlock with
    | none => exact .inl rfl
    | some b => exact .inr (fun e => hS.ne b h4 e.symm)
  · intro b hb' h5
    have h5 : g = b := by simpa [Value.ownBlock] using h5
    subst h5
    rcases hat with hat | hat
    · exact hS.ne _ hb' hat
    · have := (hlt4 _ hb').2; omega
  · exact (hS.bel.alloc hS.bel.size _).grown hgr (by have := hS.bel.size; simp; omega) (fun k hk => (hlt5 k hk).1)
end Go.Proofs.Ythpcpminikmcbaa.og
namespace Go.Proofs
open Go.Shelf
def Try.growFlt_ren : Go.Shelf.Ren := ⟨fun | 4 => 72 | n => n, fun | 22 => 50 | 25 => 55 | 3 => 3 | 4 => 4 | 9 => 9 | 20 => 20 | 0 => 0 | n => n, fun | n => n⟩
theorem Try.growFlt : Go.Proofs.Lays8.n4 Try.prog Try.growFlt_ren := {
  mixed := by kernel_rfl
  f4 := ⟨Try.f72.name, by decide, Try.func72.trans (congrArg some (by kernel_rfl))⟩
  t0 := Try.underlying0
  a0 := Try.isAgg0
  z0 := Try.sizeOf0
  v0 := Try.zeroValue0
  t3 := Try.underlying3
  a3 := Try.isAgg3
  z3 := Try.sizeOf3
  v3 := Try.zeroValue3
  t4 := Try.underlying4
  a4 := Try.isAgg4
  z4 := Try.sizeOf4
  v4 := Try.zeroValue4
  t9 := Try.underlying9
  a9 := Try.isAgg9
  z9 := Try.sizeOf9
  v9 := Try.zeroValue9
  t20 := Try.underlying20
  a20 := Try.isAgg20
  z20 := Try.sizeOf20
  v20 := Try.zeroValue20
  t22 := Try.underlying50
  a22 := Try.isAgg50
  z22 := Try.sizeOf50
  v22 := Try.zeroValue50 }
end Go.Proofs
namespace Go.Proofs.Ythpcpminikmcbaa.og
open Go.ChangeShapes Go.WideShapes Go.ChangeAt Go.RowKit Go.Shelf
open vl hiding cB cFl cS cF cI cK cIt
open stp (St Pth c3 c3_lt c3_gt c3_eq cS lexS)
set_option linter.unusedVariables false
set_option linter.unusedSimpArgs false
/-- a list of faults, to be read -/
structure FbsAt {V : World} (w : World) (a : Option Addr) (n c : Nat) (l : List (Fb V)) : Prop where
  len : l.length = n
  le : n ≤ c
  nil : a = none → c = 0
  at_ : n = 0 ∨ ∃ b off, a = some ⟨b, off, none⟩ ∧ b < w.heap.size ∧ ∀ (k : Nat) (x : Fb V), l[k]? = some x → w.rangeAt b (off + k * 3) x.enc
theorem FbsAt.below {V w w' : World} {a : Option Addr} {n c : Nat} {l : List (Fb V)} (h : FbsAt w a n c l) (hb : Below w.heap.size w w') : FbsAt w' a n c l := by
  refine ⟨h.len, h.le, h.nil, ?_⟩
  rcases h.at_ with h0 | ⟨b, off, ha, hlt, hc⟩
  · exact .inl h0
  · exact .inr ⟨b, off, ha, Nat.lt_of_lt_of_le hlt hb.size, fun k x hx j u hu => (hb.cell (p := ⟨b, off + k * 3 + j, none⟩) hlt).trans (hc k x hx j u hu)⟩
/-- some lists of faults -/
structure Lsts {V : World} (w : World) (a : Option Addr) (n : Nat) (LL : List (List (Fb V))) : Prop where
  len : LL.length = n
  at_ : n = 0 ∨ ∃ b off, a = some ⟨b, off, none⟩ ∧ b < w.heap.size ∧ ∀ (i : Nat) (l : List (Fb V)), LL[i]? = some l → ∃ ai ni ci, w.cell? ⟨b, off + i, none⟩ = some (.slice ai ni ci) ∧ FbsAt w ai ni ci l
theorem Lsts.get {V w : World} {a : Option Addr} {n : Nat} {LL : List (List (Fb V))} (h : Lsts w a n LL) {k : Nat} (hk : k < n) : ∃ b off l ai ni ci, a = some ⟨b, off, none⟩ ∧ b < w.heap.size ∧ LL[k]? = some l ∧ w.cell? ⟨b, off + k, none⟩ = some (.slice ai ni ci) ∧ FbsAt w ai ni ci l := by
  rcases h.at_ with h0 | ⟨b, off, ha, hlt, hc⟩
  · omega
  · have e := List.getElem?_eq_getElem (show k < LL.length by rw [h.len]; exact hk)
    obtain ⟨ai, ni, ci, h1, h2⟩ := hc k _ e
    exact ⟨b, off, _, ai, ni, ci, ha, hlt, e, h1, h2⟩
abbrev GrB {V : World} (B : Nat) (l : List (Fb V)) (sl : Value) (w : World) : Prop := GrV (fun x cs => cs = Fb.enc x) 55 3 B l sl w
theorem P2.map {α β : Type} (f : α → β) : ∀ l : List α, P2 (fun x y => y = f x) l (l.map f)
  | [] => trivial
  | a :: l => ⟨rfl, P2.map f l⟩
theorem P2.map_of {α β : Type} (f : α → β) : ∀ (l : List α) (r : List β), P2 (fun x y => y = f x) l r → r = l.map f
  | [], [], _ => rfl
  | a :: l, b :: r, h => by rw [List.map_cons, ← P2.map_of f l r h.2, h.1]
theorem infoF : ∃ i z, Try.prog.info? 55 = some i ∧ i.zero = some z ∧ i.size = 3 ∧ i.bytes = 56 ∧ z.cells.size = 3 := by
  have hin : (Try.prog.info? 55).map (fun i => (i.bytes, i.size, i.zero.isSome, (i.zero.map (fun z => z.cells.size)))) = some (56, 3, true, some 3) := by kernel_rfl
  cases hq : Try.prog.info? 55 with
  | none => simp [hq] at hin
  | some i =>
    simp [hq] at hin
    obtain ⟨h1, h2, h3, z, hz, h4⟩ := hin
    exact ⟨i, z, rfl, hz, h2, h1, h4⟩
theorem flat_take_succ {α : Type} {LL : List (List α)} {k : Nat} {l : List α} (h : LL[k]? = some l) : (LL.take (k + 1)).flatten = (LL.take k).flatten ++ l := by
  rw [List.take_add_one, h, List.flatten_append]
  simp
theorem flat_take_le {α : Type} (LL : List (List α)) (k : Nat) : (LL.take k).flatten.length ≤ LL.flatten.length := by
  have e : LL.flatten = (LL.take k).flatten ++ (LL.drop k).flatten := by rw [← List.flatten_append, List.take_append_drop]
  rw [e, List.length_append]
  omega
theorem growF_ok (n : Nat) (w : World) (hn : n ≤ 1048576) : Calls Try.prog 72 #[.slice none 0 0, .int .i64 n] w fun e w' => (n = 0 ∧ e = .returned (.slice none 0 0) ∧ w' = w) ∨ ∃ cap, e = .returned (.slice (some ⟨w.heap.size, 0, none⟩) 0 cap) ∧ n ≤ cap ∧ w'.ownsRow w.heap.size 55 3 (.slice (some ⟨w.heap.size, 0, none⟩) 0 cap) 0 [] ∧ Below w.heap.size w w' := by
  by_cases h0 : n = 0
  · subst h0
    refine (Any8.slices_Grow_room Try.growFlt none 0 0 0 w (Nat.le_refl _) (by omega) (by omega) (by omega)).mono ?_
    rintro e w' ⟨rfl, rfl⟩
    exact .inl ⟨rfl, rfl, rfl⟩
  · obtain ⟨i, z, hi, hz, hs, hb, hc⟩ := infoF
    refine (Any8.slices_Grow_grow Try.growFlt i z hi hz (by omega) none 0 0 n [] w (Nat.le_refl _) (by omega) (by rw [hb]; omega) (by omega) (by simp) (fun _ => rfl) (fun a e => by cases e)).mono ?_
    rintro e w' ⟨rfl, rfl⟩
    have h1 := grownCap_ge w (0 + n) 0 55
    have h2 := grownCap_le_maxLen w (0 + n) 0 55 (by unfold maxLen; omega)
    refine .inr ⟨_, rfl, by show n ≤ grownCap w (0 + n) 0 55; omega, ⟨rfl, .inr ⟨_, _, _, rfl, Nat.le_refl _, heap_alloc_new _ _, Nat.zero_le _, h2, ?_, by simp⟩⟩, (Below.refl _ _).drew.alloc (Nat.le_refl _) _⟩
    simp only [Array.size_append, List.size_toArray, List.length_nil, size_zeroCells, hc]
    show 0 + (0 + n - 0) * 3 + (grownCap w (0 + n) 0 55 - (0 + n)) * 3 = grownCap w (0 + n) 0 55 * 3
    omega
end Go.Proofs.Ythpcpminikmcbaa.og
namespace Go.Proofs.Ythpcpminikmcbaa.og
open Go.ChangeShapes Go.WideShapes Go.ChangeAt Go.RowKit Go.Shelf
open vl hiding cB cFl cS cF cI cK cIt
open stp (St Pth c3 c3_lt c3_gt c3_eq cS lexS)
set_option linter.unusedVariables false
set_option linter.unusedSimpArgs false
theorem flat3 {V : World} : ∀ (l : List (Fb V)) (j : Nat) (u : Value), (l.map Fb.enc).flatten[j]? = some u → ∃ k x r, l[k]? = some x ∧ j = k * 3 + r ∧ x.enc[r]? = some u
  | [], j, u, h => by simp at h
  | a :: l, j, u, h => by
    rw [List.map_cons, List.flatten_cons] at h
    by_cases hj : j < 3
    · rw [List.getElem?_append_left (by rw [Fb.len]; exact hj)] at h
      exact ⟨0, a, j, rfl, by omega, h⟩
    · rw [List.getElem?_append_right (by rw [Fb.len]; omega), Fb.len] at h
      obtain ⟨k, x, r, h1, h2, h3⟩ := flat3 l (j - 3) u h
      exact ⟨k + 1, x, r, by simpa using h1, by omega, h3⟩
theorem flat3_len {V : World} : ∀ (l : List (Fb V)), (l.map Fb.enc).flatten.length = l.length * 3
  | [] => rfl
  | a :: l => by rw [List.map_cons, List.flatten_cons, List.length_append, Fb.len, flat3_len l, List.length_cons]; omega
theorem grv_form {E : Type} {R : E → List Value → Prop} {t : TypeId} {size B : Nat} {l : List E} {sl : Value} {w : World} (h : GrV R t size B l sl w) : ∃ a c, sl = .slice a l.length c := by
  obtain ⟨xss, h1, h2⟩ := h
  rcases h1.2 with ⟨e, h0⟩ | ⟨g, cap, cur, e, -⟩
  · exact ⟨none, 0, by rw [e, h0]⟩
  · exact ⟨_, _, e⟩
/-- append of a whole list of faults -/
theorem wp_cat {V w : World} {B : Nat} {l l' : List (Fb V)} {sl : Value} {ai : Option Addr} {ni ci : Nat} {ops : Array Oper} {rest : List Oper} {o : Oper} {a : Act} {Q : Exit → Act → World → Prop} (hG : GrB B l sl w) (hB : B ≤ w.heap.size) (hF : FbsAt w ai ni ci l') (hgd : o.guard = none) (s x : Operand)
    (ho : o.op = .call { callee := .builtin .append, args := #[s, x], argTypes := #[50, 50] }) (hs : a.eval s = sl) (hx : a.eval x = .slice ai ni ci) (hn : l.length + l'.length ≤ 1048576)
    (h : ∀ aj nj cj w', GrB B (l ++ l') (.slice aj nj cj) w' → Below B w w' → wpList Try.prog ops Q rest (a.put o.dst (.slice aj nj cj)) w') : wpList Try.prog ops Q (o :: rest) a w := by
  obtain ⟨i, z, hi, hz, hsz, hb, hc⟩ := infoF
  have hlt := hG.lt
  obtain ⟨xss, hrow, hol⟩ := hG
  obtain rfl := P2.map_of _ _ _ hol
  have hl := hF.len
  cases ai with
  | none =>
    have hc0 := hF.nil rfl
    have hle := hF.le
    obtain rfl : ci = 0 := hc0
    obtain rfl : ni = 0 := by omega
    obtain rfl : l' = [] := List.eq_nil_of_length_eq_zero hl
    refine wpList_plain hgd fun K hK' => ?_
    have hrun := run_append_owned_none (P := Try.prog) w B 50 o.type 55 i 3 Try.underlying50 hi sl l.length _ hrow
    unfold Oper.wp
    simp [execOp, ho, resolve, invoke, builtin, hs, hx, hrun, Result.andThen]
    have hG' : GrB B (l ++ []) sl w := ⟨l.map Fb.enc, by simpa using hrow, by simpa using P2.map Fb.enc l⟩
    obtain ⟨aj, cj, rfl⟩ := grv_form hG'
    exact hK' _ _ (h aj _ cj w hG' (Below.refl _ _))
  | some ad =>
    refine wpList_append_own _ hgd s x _ ho B 55 i z 3 56 Try.underlying50 hi hz hsz hb hc (by omega) sl l.length _ hs hrow ad ni ci (l'.map Fb.enc).flatten hx (by rw [flat3_len, hl]) ?_ ?_ (by unfold maxLen; omega) (by omega) hB ?_
    · intro j u hu
      obtain ⟨k, y, r, h1, rfl, h3⟩ := flat3 l' j u hu
      rcases hF.at_ with h0 | ⟨b, off, ha, hbl, hcell⟩
      · have := (List.getElem?_eq_some_iff.1 h1).1
        omega
      · cases ha
        have := hcell k y h1 r u h3
        rw [Addr.add_lit, show off + (k * 3 + r) = off + k * 3 + r by omega]
        exact this
    · intro u hu
      rw [List.mem_flatten] at hu
      obtain ⟨cs, hcs, hu⟩ := hu
      rw [List.mem_map] at hcs
      obtain ⟨y, -, rfl⟩ := hcs
      exact y.one u hu
    · intro v' w' hown hgr _
      have hG' : GrB B (l ++ l') v' w' := ⟨l.map Fb.enc ++ l'.map Fb.enc, by rw [List.length_append, hl, List.flatten_append]; exact hown, by rw [← List.map_append]; exact P2.map Fb.enc _⟩
      obtain ⟨aj, cj, rfl⟩ := grv_form hG'
      exact h aj _ cj w' hG' ((Below.refl _ _).grown hgr hB (fun q hq => (hlt q hq).1))
set_option maxHeartbeats 2000000 in
set_option maxRecDepth 100000 in
theorem concat_ok {V : World} (LL : List (List (Fb V))) (a : Option Addr) (n c : Nat) (w : World) (h : Lsts w a n LL) (hN : LL.flatten.length ≤ 1048576) (hn : n ≤ 1048576) :
    Calls Try.prog 38 #[.slice a n c] w fun e w' => ∃ aj nj cj, e = .returned (.slice aj nj cj) ∧ GrB w.heap.size LL.flatten (.slice aj nj cj) w' ∧ Below w.heap.size w w' := by
  have HL := hide h
  have hlen := hide h.len
  have HN := hide hN
  clear h hN
  go_enter Try.func38, Try.ntmps38
  go_wp2_with fail
  go_loopw [11, 3] (fun vi vs wr => ∃ k S : Nat, k ≤ n ∧ vi = .int .i64 k ∧ vs = .int .i64 S ∧ vl.Hid ((LL.take k).flatten.length = S) ∧ w = wr) (fun vi _ _ => n - (intOf vi).toNat)
  case atStart => exact ⟨0, 0, Nat.zero_le _, rfl, rfl, hide (by simp), rfl⟩
  case round =>
    obtain ⟨k, S, hk, rfl, rfl, HS, rfl⟩ := hrel
    by_cases hlt : k < n
    · obtain ⟨b, off, l, ai, ni, ci, rfl, hb, hl, hc, hF⟩ := (unhide HL).get hlt
      have HS2 := hide (show (LL.take (k + 1)).flatten.length = S + ni by rw [flat_take_succ hl, List.length_append, unhide HS, hF.len])
      have hle : S + ni ≤ 1048576 := by rw [← unhide HS2]; exact Nat.le_trans (flat_take_le _ _) (unhide HN)
      have ki : (k : Int) < (n : Int) := by omega
      have hpos : ¬ ((S : Int) + (ni : Int) < 0) := by omega
      clear hl hF HS
      go_wp2
      go_roundw
      case rel => exact ⟨k + 1, S + ni, by omega, by simp, by simp, HS2, by first | rfl | trivial⟩
      case measure => simp [intOf]; omega
    · obtain rfl : k = n := by omega
      have hS : S ≤ 1048576 := by rw [← unhide HS]; exact Nat.le_trans (flat_take_le _ _) (unhide HN)
      have G := hide (growF_ok S w hS)
      have HB := hide (show (Below w.heap.size w w) from Below.refl _ _)
      have HS2 := hide (show LL.flatten.length = S by rw [← unhide HS, List.take_of_length_le (by rw [unhide hlen]; omega)])
      clear HS
      go_wp2_with fail
      refine (unhide G).mono ?_
      rintro e w1 hg
      obtain ⟨a1, n1, c1, rfl, hG1, b1⟩ : ∃ a1 n1 c1, e = .returned (.slice a1 n1 c1) ∧ GrB (V := V) w.heap.size [] (.slice a1 n1 c1) w1 ∧ Below w.heap.size w w1 := by
        rcases hg with ⟨-, rfl, rfl⟩ | ⟨cap, rfl, -, hown, hb⟩
        · exact ⟨none, 0, 0, rfl, GrV.nil, Below.refl _ _⟩
        · exact ⟨_, _, _, rfl, ⟨[], hown, trivial⟩, hb⟩
      clear hg G
      have HG1 := hide hG1
      clear hG1
      go_wp2_with fail
      go_loopw [27, 6] (fun vi vs wr => ∃ (m : Nat) (aj : Option Addr) (nj cj : Nat), m ≤ k ∧ vi = .int .i64 m ∧ vs = .slice aj nj cj ∧ vl.Hid (GrB w.heap.size (LL.take m).flatten (.slice aj nj cj) wr) ∧ Below w.heap.size w wr) (fun vi _ _ => k - (intOf vi).toNat)
      case atStart => exact ⟨0, a1, n1, c1, Nat.zero_le _, rfl, rfl, HG1, b1⟩
      case round =>
        obtain ⟨m, aj, nj, cj, hm, rfl, rfl, HG, hb⟩ := hrel
        by_cases hlm : m < k
        · obtain ⟨b, off, l, ai, ni, ci, rfl, hbl, hl, hc, hF⟩ := (unhide HL).get hlm
          have hc' : wr.cell? ⟨b, off + m, none⟩ = some (.slice ai ni ci) := (hb.cell (p := ⟨b, off + m, none⟩) hbl).trans hc
          have HF := hide (hF.below hb)
          have HFl := hide (flat_take_succ hl)
          have hle := hide (show (LL.take m).flatten.length + l.length ≤ 1048576 by rw [← List.length_append, ← flat_take_succ hl]; exact Nat.le_trans (flat_take_le _ _) (unhide HN))
          have mi : (m : Int) < (k : Int) := by omega
          clear hl hF hc
          go_wp2_with (refine wp_cat (unhide HG) hb.size (unhide HF) rfl _ _ rfl rfl rfl (unhide hle) ?_; intro a2 n2 c2 w2 hG2 b2; have HG2 := hide hG2; clear hG2)
          go_roundw
          case rel => exact ⟨m + 1, a2, n2, c2, by omega, by simp, rfl, by rw [unhide HFl]; exact HG2, hb.trans b2⟩
          case measure => simp [intOf]; omega
        · obtain rfl : m = k := by omega
          have hfin := unhide HG
          rw [List.take_of_length_le (by rw [unhide hlen]; omega)] at hfin
          have HG2 := hide hfin
          clear hfin HG
          go_wp2
          go_ret
          exact ⟨aj, nj, cj, rfl, unhide HG2, hb⟩
end Go.Proofs.Ythpcpminikmcbaa.og
namespace Go.Proofs.Ythpcpminikmcbaa.og
open Go.ChangeShapes Go.WideShapes Go.ChangeAt Go.RowKit Go.Shelf
open vl hiding cB cFl cS cF cI cK cIt
open stp (St Pth c3 c3_lt c3_gt c3_eq cS lexS)
set_option linter.unusedVariables false
set_option linter.unusedSimpArgs false
/-- of neighbours that are level the first alone -/
def cptA {V : World} : Fb V → List (Fb V) → List (Fb V)
  | _, [] => []
  | p, y :: r => if y.cf p = 0 then cptA y r else y :: cptA y r
def cpt {V : World} : List (Fb V) → List (Fb V)
  | [] => []
  | x :: r => x :: cptA x r
theorem cptA_snoc {V : World} (y : Fb V) : ∀ (r : List (Fb V)) (q p : Fb V), (q :: r).getLast? = some p → cptA q (r ++ [y]) = if y.cf p = 0 then cptA q r else cptA q r ++ [y]
  | [], q, p, h => by
    obtain rfl : q = p := by simpa using h
    simp only [List.nil_append, cptA]
  | z :: r, q, p, h => by
    have ih := cptA_snoc y r z p (by simpa using h)
    simp only [List.cons_append, cptA]
    rw [ih]
    split
    · rfl
    · split
      · rfl
      · simp
theorem cpt_take {V : World} {l : List (Fb V)} {k : Nat} {p y : Fb V} (hp : l[k]? = some p) (hy : l[k + 1]? = some y) : cpt (l.take (k + 2)) = if y.cf p = 0 then cpt (l.take (k + 1)) else cpt (l.take (k + 1)) ++ [y] := by
  rw [List.take_add_one (i := k + 1), hy]
  have hne : l.take (k + 1) ≠ [] := by
    intro e
    have := congrArg List.length e
    have h1 := (List.getElem?_eq_some_iff.1 hp).1
    rw [List.length_take, List.length_nil] at this
    omega
  have hl : (l.take (k + 1)).getLast? = some p := by
    rw [List.take_add_one, hp]
    simp
  cases hL : l.take (k + 1) with
  | nil => exact absurd hL hne
  | cons q r =>
    rw [hL] at hl
    show cpt ((q :: r) ++ [y]) = _
    simp only [List.cons_append, cpt]
    rw [cptA_snoc y r q p hl]
    split <;> simp
theorem cptA_le {V : World} : ∀ (r : List (Fb V)) (q : Fb V), (cptA q r).length ≤ r.length
  | [], _ => Nat.le_refl _
  | y :: r, q => by
    rw [cptA]
    have := cptA_le r y
    split <;> simp <;> omega
theorem cpt_le {V : World} (l : List (Fb V)) : (cpt l).length ≤ l.length := by
  cases l with
  | nil => exact Nat.le_refl _
  | cons x r => have := cptA_le r x; simp [cpt]; omega
set_option maxHeartbeats 2000000 in
set_option maxRecDepth 100000 in
theorem eqB_ok {V : World} (x y : Fb V) (w : World) (hV : Below V.heap.size V w) : Calls Try.prog 42 #[.agg x.enc.toArray, .agg y.enc.toArray] w fun e w' => e = .returned (.bool (x.cf y == 0)) ∧ Gr w w' := by
  obtain ⟨⟨f, cs⟩, hf⟩ := x
  obtain ⟨⟨g, ds⟩, hg⟩ := y
  unfold Fb.enc Fb.cf Fb.ft
  simp only at hf hg ⊢
  have C := hide (fun W (hb : Gr w W) => faultG f g cs ds W (hf.below (hV.trans (hb.1.mono hV.size))) (hg.below (hV.trans (hb.1.mono hV.size))))
  obtain ⟨ap, np, cp, aq, nq, cq, rfl, -⟩ := hf
  obtain ⟨bp, mp, dp, bq, mq, dq, rfl, -⟩ := hg
  generalize cF f g = R at *
  generalize f.kd = fk at *
  generalize g.kd = gk at *
  go_enter Try.func42, Try.ntmps42
  go_wp2_with fail
  refine (unhide C _ (((Gr.refl _).alloc _).alloc _)).mono ?_
  rintro e w1 ⟨rfl, g1⟩
  clear C
  go_wp2
  go_ret
  exact ⟨rfl, (((Gr.refl _).alloc _).alloc _).trans g1⟩
theorem RowB.below {V w w' : World} {p : Nat} {l : List (Fb V)} (h : RowB w p l) (hp : p < w.heap.size) (hb : Below w.heap.size w w') : RowB w' p l :=
  ⟨fun i x hx j u hu => (hb.cell (p := ⟨p, i * 3 + j, none⟩) hp).trans (h.row i x hx j u hu), fun j hj => by
    have := h.thr j hj
    exact ⟨by rw [hb.cell (p := ⟨p, 0 + j, none⟩) hp]; exact this.1, by rw [hb.frozen (p := ⟨p, 0 + j, none⟩) hp]; exact this.2⟩⟩
end Go.Proofs.Ythpcpminikmcbaa.og
namespace Go.Proofs.Ythpcpminikmcbaa.og
open Go.ChangeShapes Go.WideShapes Go.ChangeAt Go.RowKit Go.Shelf
open vl hiding cB cFl cS cF cI cK cIt
open stp (St Pth c3 c3_lt c3_gt c3_eq cS lexS)
set_option linter.unusedVariables false
set_option linter.unusedSimpArgs false
theorem Fb.cells3 {V : World} (x : Fb V) : ∃ k a b, x.enc = [.int .i64 k, a, b] ∧ (∃ ap np cp, a = .slice ap np cp) ∧ ∃ aq nq cq, b = .slice aq nq cq := by
  obtain ⟨ap, np, cp, aq, nq, cq, e, -⟩ := x.2
  exact ⟨_, _, _, e, ⟨_, _, _, rfl⟩, _, _, _, rfl⟩
/-- the cells while neighbours that are level are taken out: q have been looked at -/
structure CpS {V : World} (l : List (Fb V)) (p q : Nat) (w : World) : Prop where
  lo : ∀ (i : Nat) (x : Fb V), (cpt (l.take q))[i]? = some x → w.rangeAt p (i * 3) x.enc
  hi : ∀ (i : Nat) (x : Fb V), q ≤ i + 1 → l[i]? = some x → w.rangeAt p (i * 3) x.enc
  thr : w.there p 0 (l.length * 3)
theorem CpS.below {V w w' : World} {l : List (Fb V)} {p q : Nat} (h : CpS l p q w) (hp : p < w.heap.size) (hb : Below w.heap.size w w') : CpS l p q w' :=
  ⟨fun i x hx j u hu => (hb.cell (p := ⟨p, i * 3 + j, none⟩) hp).trans (h.lo i x hx j u hu), fun i x hq hx j u hu => (hb.cell (p := ⟨p, i * 3 + j, none⟩) hp).trans (h.hi i x hq hx j u hu), fun j hj => by
    have := h.thr j hj
    exact ⟨by rw [hb.cell (p := ⟨p, 0 + j, none⟩) hp]; exact this.1, by rw [hb.frozen (p := ⟨p, 0 + j, none⟩) hp]; exact this.2⟩⟩
theorem CpS.skip {V w : World} {l : List (Fb V)} {p q : Nat} {x y : Fb V} (h : CpS l p (q + 1) w) (hx : l[q]? = some x) (hy : l[q + 1]? = some y) (he : y.cf x = 0) : CpS l p (q + 2) w ∧ (cpt (l.take (q + 2))).length = (cpt (l.take (q + 1))).length := by
  have e := cpt_take hx hy
  rw [if_pos he] at e
  exact ⟨⟨by rw [e]; exact h.lo, fun i z hi hz => h.hi i z (by omega) hz, h.thr⟩, by rw [e]⟩
theorem CpS.put {V w : World} {l : List (Fb V)} {p q : Nat} {x y : Fb V} (h : CpS l p (q + 1) w) (hx : l[q]? = some x) (hy : l[q + 1]? = some y) (he : y.cf x ≠ 0) (k : Nat) (hk : k = (cpt (l.take (q + 1))).length) (hkq : k ≤ q) : CpS l p (q + 2) (w.setCells p (k * 3) y.enc) ∧ (cpt (l.take (q + 2))).length = k + 1 := by
  have e := cpt_take hx hy
  rw [if_neg he] at e
  have hql := (List.getElem?_eq_some_iff.1 hy).1
  have l3 := fun z : Fb V => z.len
  have hth : w.there p (k * 3) y.enc.length := fun j hj => by
    rw [l3] at hj
    have := h.thr (k * 3 + j) (by omega)
    rw [Nat.zero_add] at this
    exact this
  refine ⟨⟨?_, ?_, World.there_setCells h.thr _ _ _⟩, by rw [e, List.length_append, hk]; rfl⟩
  · intro i z hz
    rw [e] at hz
    by_cases hik : i < k
    · rw [List.getElem?_append_left (by omega)] at hz
      exact World.rangeAt_setCells_apart (h.lo i z hz) _ _ _ (.inr (.inl (by rw [l3]; omega)))
    · rw [List.getElem?_append_right (by omega), ← hk] at hz
      obtain rfl : i = k := by
        have := (List.getElem?_eq_some_iff.1 hz).1
        simp at this
        omega
      simp at hz
      subst hz
      exact World.rangeAt_setCells_same w p _ _ hth
  · intro i z hi hz
    exact World.rangeAt_setCells_apart (h.hi i z (by omega) hz) _ _ _ (.inr (.inr (by rw [l3]; omega)))
theorem CpS.start {V w : World} {l : List (Fb V)} {p q : Nat} (h : RowB w p l) (he : cpt (l.take q) = l.take q) : CpS l p q w := by
  refine ⟨fun i x hx => ?_, fun i x _ hx => h.row i x hx, h.thr⟩
  rw [he] at hx
  by_cases hi : i < q
  · rw [List.getElem?_take_of_lt hi] at hx; exact h.row i x hx
  · rw [List.getElem?_eq_none (by rw [List.length_take]; omega)] at hx; cases hx
theorem zeroF (w : World) : (zeroValue 55).run Try.prog w = .ok (.agg #[.int .i64 0, .slice none 0 0, .slice none 0 0]) w := by kernel_rfl
theorem run_clearF (w : World) (ty : TypeId) (b o n c : Nat) (hn : 0 < n) (ht : w.there b o (n * 3)) :
    (Builtin.clear_ #[50] ty #[.slice (some ⟨b, o, none⟩) n c]).run Try.prog w = .ok (.tuple #[]) (w.setCells b o (Builtin.zeroCells #[.int .i64 0, .slice none 0 0, .slice none 0 0] n).toList) := by
  have hl : (Builtin.zeroCells #[Value.int .i64 0, .slice none 0 0, .slice none 0 0] n).toList.length = n * 3 := by rw [Array.length_toList, size_zeroCells]; rfl
  have hst := run_storeCells_cells (P := Try.prog) b o (Builtin.zeroCells #[.int .i64 0, .slice none 0 0, .slice none 0 0] n).toList 0 w (fun j hj => by have := ht j (by rw [hl] at hj; exact hj); simpa using this.1) (fun j hj => by have := ht j (by rw [hl] at hj; exact hj); simpa using this.2) (by
    intro v hv
    simp only [Builtin.zeroCells, Array.toList_map, List.mem_map] at hv
    obtain ⟨i, -, rfl⟩ := hv
    have : i % (#[Value.int .i64 0, .slice none 0 0, .slice none 0 0] : Array Value).size < 3 := Nat.mod_lt _ (by decide)
    rcases (show i % (#[Value.int .i64 0, .slice none 0 0, .slice none 0 0] : Array Value).size = 0 ∨ i % (#[Value.int .i64 0, .slice none 0 0, .slice none 0 0] : Array Value).size = 1 ∨ i % (#[Value.int .i64 0, .slice none 0 0, .slice none 0 0] : Array Value).size = 2 by omega) with e | e | e <;> rw [e] <;> rfl)
  simp only [Nat.add_zero] at hst
  obtain ⟨m, rfl⟩ : ∃ m, n = m + 1 := ⟨n - 1, by omega⟩
  simp [Builtin.clear_, run_underlying Try.underlying50, zeroF, Value.cells, hst]
theorem set3F (w : World) (g o : Nat) (a b c : Value) : ((w.setCell ⟨g, o, none⟩ a).setCell ⟨g, o + 1, none⟩ b).setCell ⟨g, o + 2, none⟩ c = w.setCells g o [a, b, c] := rfl
set_option maxHeartbeats 2000000 in
set_option maxRecDepth 100000 in
theorem compact_ok {V : World} (l : List (Fb V)) (p n c : Nat) (w : World) (hn : l.length = n) (hV : Below V.heap.size V w) (hVp : V.heap.size ≤ p) (hp : p < w.heap.size) (h : RowB w p l) (hnb : n ≤ 1048576) (hc : n ≤ c) (hcm : c ≤ maxLen) :
    Calls Try.prog 41 #[.slice (some ⟨p, 0, none⟩) n c, .func (.func 42) #[] #[]] w fun e w' => ∃ m, e = .returned (.slice (some ⟨p, 0, none⟩) m c) ∧ RowB w' p (cpt l) ∧ m = (cpt l).length ∧ Below p w w' := by
  have hcm' : c ≤ 9223372036854775807 := by unfold maxLen at hcm; omega
  clear hcm
  by_cases h2 : n < 2
  · have e : cpt l = l := by
      match l, hn with
      | [], _ => rfl
      | [x], _ => rfl
      | _ :: _ :: _, hn => simp at hn; omega
    have hi : (n : Int) < 2 := by omega
    have E := hide e
    have HN := hide hn
    have HR := hide h
    clear e hn h
    go_enter Try.func41, Try.ntmps41
    go_wp2
    go_ret
    exact ⟨n, rfl, by rw [unhide E]; exact unhide HR, by rw [unhide E]; exact (unhide HN).symm, Below.refl _ _⟩
  · have hi : ¬ (n : Int) < 2 := by omega
    have HN := hide hn
    have HR := hide h
    have en : ∀ args w, (callFunc 42 args).run Try.prog w = .ok (.enter 42 args) w := enters_of Try.func42 (by kernel_rfl) rfl
    have e1 : cpt (l.take 1) = l.take 1 := by
      match l, hn with
      | [], _ => rfl
      | x :: r, _ => rfl
    have E1 := hide e1
    clear e1 hn h
    go_enter Try.func41, Try.ntmps41
    go_wp2_with fail
    go_loopw [5] (fun vk wr => ∃ q : Nat, q + 1 ≤ n ∧ vk = .int .i64 ((q : Int) + 1) ∧ vl.Hid (cpt (l.take (q + 1)) = l.take (q + 1)) ∧ Below w.heap.size w wr) (fun vk _ => n - (intOf vk).toNat)
    case atStart => exact ⟨0, by omega, rfl, E1, Below.refl _ _⟩
    case round =>
      obtain ⟨q, hq, rfl, HE, hb⟩ := hrel
      have hpr : p < wr.heap.size := Nat.lt_of_lt_of_le hp hb.size
      by_cases hlt : q + 1 < n
      · have ki : (q : Int) + 1 < (n : Int) := by omega
        have ki0 : (q : Int) < (n : Int) := by omega
        have kq : (q : Int) + 1 - 1 = (q : Int) := by omega
        have kp : (0 : Int) ≤ (q : Int) + 1 := by omega
        have kw : IntKind.i64.wrap (q : Int) = (q : Int) := by rw [IntKind.wrap_i64]; omega
        obtain ⟨x, hx⟩ : ∃ x, l[q]? = some x := ⟨_, List.getElem?_eq_getElem (by rw [unhide HN]; omega)⟩
        obtain ⟨y, hy⟩ : ∃ y, l[q + 1]? = some y := ⟨_, List.getElem?_eq_getElem (by rw [unhide HN]; omega)⟩
        have rx := ((unhide HR).below hp hb).row q x hx
        have ry := ((unhide HR).below hp hb).row (q + 1) y hy
        have HX := hide hx
        have HY := hide hy
        have EQ := hide (fun W (hW : Below V.heap.size V W) => eqB_ok y x W hW)
        obtain ⟨xk, xa, xb, ex, ⟨ap, np, cp, rfl⟩, aq, nq, cq, rfl⟩ := x.cells3
        obtain ⟨yk, ya, yb, ey, ⟨bp, mp, dp, rfl⟩, bq, mq, dq, rfl⟩ := y.cells3
        rw [ex] at rx EQ
        rw [ey] at ry EQ
        have x0 : wr.cell? ⟨p, q * 3, none⟩ = some (.int .i64 xk) := rx 0 _ rfl
        have x1 : wr.cell? ⟨p, q * 3 + 1, none⟩ = some (.slice ap np cp) := rx 1 _ rfl
        have x2 : wr.cell? ⟨p, q * 3 + 2, none⟩ = some (.slice aq nq cq) := rx 2 _ rfl
        have y0 : wr.cell? ⟨p, (q + 1) * 3, none⟩ = some (.int .i64 yk) := ry 0 _ rfl
        have y1 : wr.cell? ⟨p, (q + 1) * 3 + 1, none⟩ = some (.slice bp mp dp) := ry 1 _ rfl
        have y2 : wr.cell? ⟨p, (q + 1) * 3 + 2, none⟩ = some (.slice bq mq dq) := ry 2 _ rfl
        clear rx ry hx hy ex ey
        go_wp2_with fail
        have hS0 : Gr wr { wr with drawn := wr.drawn + 1 } := (Gr.refl _).drew
        refine wp_region_noPanic ?_
        refine wp_region_held (S := fun w' => Gr wr w') mixed ?_
        refine wpAnyH_take (i := 0) (v := ?v1) rfl (by kernel_rfl) (by kernel_rfl) (by kernel_rfl) (fun _ _ _ h => h) (Or.inl ⟨by rfl, ?hy1⟩) hS0 ?_
        case hy1 => (intro w' hw'; have a0 := keepC hw'.1 hpr x0; have a1 := keepC hw'.1 hpr x1; have a2 := keepC hw'.1 hpr x2; have b0 := keepC hw'.1 hpr y0; have b1 := keepC hw'.1 hpr y1; have b2 := keepC hw'.1 hpr y2; go_simp; try with_reducible rfl)
        simp only [List.getElem_toArray, List.getElem_cons_zero, List.getElem_cons_succ, Act.put, List.setIfInBounds_toArray, List.set_cons_zero, List.set_cons_succ]
        refine wpAnyH_take (i := 1) (v := ?v2) rfl (by kernel_rfl) (by kernel_rfl) (by kernel_rfl) (fun _ _ _ h => h) (Or.inl ⟨by rfl, ?hy2⟩) hS0 ?_
        case hy2 => (intro w' hw'; have a0 := keepC hw'.1 hpr x0; have a1 := keepC hw'.1 hpr x1; have a2 := keepC hw'.1 hpr x2; have b0 := keepC hw'.1 hpr y0; have b1 := keepC hw'.1 hpr y1; have b2 := keepC hw'.1 hpr y2; go_simp; try with_reducible rfl)
        simp only [List.getElem_toArray, List.getElem_cons_zero, List.getElem_cons_succ, Act.put, List.setIfInBounds_toArray, List.set_cons_zero, List.set_cons_succ]
        refine wpAnyH_take (i := 2) (v := ?v3) rfl (by kernel_rfl) (by kernel_rfl) (by kernel_rfl) (fun _ _ _ h => h) (Or.inl ⟨by rfl, ?hy3⟩) hS0 ?_
        case hy3 => (intro w' hw'; have a0 := keepC hw'.1 hpr x0; have a1 := keepC hw'.1 hpr x1; have a2 := keepC hw'.1 hpr x2; have b0 := keepC hw'.1 hpr y0; have b1 := keepC hw'.1 hpr y1; have b2 := keepC hw'.1 hpr y2; go_simp; try with_reducible rfl)
        simp only [List.getElem_toArray, List.getElem_cons_zero, List.getElem_cons_succ, Act.put, List.setIfInBounds_toArray, List.set_cons_zero, List.set_cons_succ]
        refine wpAnyH_take (i := 3) (v := ?v4) rfl (by kernel_rfl) (by kernel_rfl) (by kernel_rfl) (fun _ _ _ h => h) (Or.inl ⟨by rfl, ?hy4⟩) hS0 ?_
        case hy4 => (intro w' hw'; have a0 := keepC hw'.1 hpr x0; have a1 := keepC hw'.1 hpr x1; have a2 := keepC hw'.1 hpr x2; have b0 := keepC hw'.1 hpr y0; have b1 := keepC hw'.1 hpr y1; have b2 := keepC hw'.1 hpr y2; go_simp; try with_reducible rfl)
        simp only [List.getElem_toArray, List.getElem_cons_zero, List.getElem_cons_succ, Act.put, List.setIfInBounds_toArray, List.set_cons_zero, List.set_cons_succ]
        refine wpAnyH_take (i := 4) (v := ?v5) rfl (by kernel_rfl) (by kernel_rfl) (by kernel_rfl) (fun _ _ _ h => h) (Or.inl ⟨by rfl, ?hy5⟩) hS0 ?_
        case hy5 => (intro w' hw'; have a0 := keepC hw'.1 hpr x0; have a1 := keepC hw'.1 hpr x1; have a2 := keepC hw'.1 hpr x2; have b0 := keepC hw'.1 hpr y0; have b1 := keepC hw'.1 hpr y1; have b2 := keepC hw'.1 hpr y2; go_simp; try with_reducible rfl)
        simp only [List.getElem_toArray, List.getElem_cons_zero, List.getElem_cons_succ, Act.put, List.setIfInBounds_toArray, List.set_cons_zero, List.set_cons_succ]
        refine wpAnyH_take (i := 5) (v := ?v6) rfl (by kernel_rfl) (by kernel_rfl) (by kernel_rfl) (fun _ _ _ h => h) (Or.inl ⟨by rfl, ?hy6⟩) hS0 ?_
        case hy6 => (intro w' hw'; have a0 := keepC hw'.1 hpr x0; have a1 := keepC hw'.1 hpr x1; have a2 := keepC hw'.1 hpr x2; have b0 := keepC hw'.1 hpr y0; have b1 := keepC hw'.1 hpr y1; have b2 := keepC hw'.1 hpr y2; go_simp; try with_reducible rfl)
        simp only [List.getElem_toArray, List.getElem_cons_zero, List.getElem_cons_succ, Act.put, List.setIfInBounds_toArray, List.set_cons_zero, List.set_cons_succ]
        refine wpAnyH_take (i := 6) (v := ?v7) rfl (by kernel_rfl) (by kernel_rfl) (by kernel_rfl) (fun _ _ _ h => h) (Or.inl ⟨by rfl, ?hy7⟩) hS0 ?_
        case hy7 => (intro w' hw'; have a0 := keepC hw'.1 hpr x0; have a1 := keepC hw'.1 hpr x1; have a2 := keepC hw'.1 hpr x2; have b0 := keepC hw'.1 hpr y0; have b1 := keepC hw'.1 hpr y1; have b2 := keepC hw'.1 hpr y2; go_simp; try with_reducible rfl)
        simp only [List.getElem_toArray, List.getElem_cons_zero, List.getElem_cons_succ, Act.put, List.setIfInBounds_toArray, List.set_cons_zero, List.set_cons_succ]
        refine wpAnyH_take (i := 7) (v := ?v8) rfl (by kernel_rfl) (by kernel_rfl) (by kernel_rfl) (fun _ _ _ h => h) (Or.inl ⟨by rfl, ?hy8⟩) hS0 ?_
        case hy8 => (intro w' hw'; have a0 := keepC hw'.1 hpr x0; have a1 := keepC hw'.1 hpr x1; have a2 := keepC hw'.1 hpr x2; have b0 := keepC hw'.1 hpr y0; have b1 := keepC hw'.1 hpr y1; have b2 := keepC hw'.1 hpr y2; go_simp; try with_reducible rfl)
        simp only [List.getElem_toArray, List.getElem_cons_zero, List.getElem_cons_succ, Act.put, List.setIfInBounds_toArray, List.set_cons_zero, List.set_cons_succ]
        refine wpAnyH_take (i := 8) (v := ?v9) rfl (by kernel_rfl) (by kernel_rfl) (by kernel_rfl) (fun _ _ _ h => h) (Or.inl ⟨by rfl, ?hy9⟩) hS0 ?_
        case hy9 => (intro w' hw'; have a0 := keepC hw'.1 hpr x0; have a1 := keepC hw'.1 hpr x1; have a2 := keepC hw'.1 hpr x2; have b0 := keepC hw'.1 hpr y0; have b1 := keepC hw'.1 hpr y1; have b2 := keepC hw'.1 hpr y2; go_simp; try with_reducible rfl)
        simp only [List.getElem_toArray, List.getElem_cons_zero, List.getElem_cons_succ, Act.put, List.setIfInBounds_toArray, List.set_cons_zero, List.set_cons_succ]
        refine wpAnyH_take (i := 9) (v := ?v10) rfl (by kernel_rfl) (by kernel_rfl) (by kernel_rfl) (fun _ _ _ h => h) (Or.inl ⟨by rfl, ?hy10⟩) hS0 ?_
        case hy10 => (intro w' hw'; have a0 := keepC hw'.1 hpr x0; have a1 := keepC hw'.1 hpr x1; have a2 := keepC hw'.1 hpr x2; have b0 := keepC hw'.1 hpr y0; have b1 := keepC hw'.1 hpr y1; have b2 := keepC hw'.1 hpr y2; go_simp; try with_reducible rfl)
        simp only [List.getElem_toArray, List.getElem_cons_zero, List.getElem_cons_succ, Act.put, List.setIfInBounds_toArray, List.set_cons_zero, List.set_cons_succ]
        refine rgn.one (i := 10) _ rfl (by kernel_rfl) (by rfl) ?_
        simp only [List.getElem_toArray, List.getElem_cons_zero, List.getElem_cons_succ, Act.put, List.setIfInBounds_toArray, List.set_cons_zero, List.set_cons_succ]
        go_wp2_with fail
        refine (unhide EQ _ ((hV.trans (hb.mono hV.size)).drew)).mono ?_
        rintro e w1 ⟨rfl, g1⟩
        refine ⟨hS0.trans g1, ?_⟩
        refine wpAnyH_done (by kernel_rfl) ?_ _; refine NoPanic.normal ?_
        have hb1 : Below w.heap.size w w1 := hb.trans ((hS0.trans g1).1.mono hb.size)
        clear x0 x1 x2 y0 y1 y2 EQ
        obtain ⟨C, hC⟩ : ∃ C, y.cf x = C := ⟨_, rfl⟩
        rw [hC]
        have HC := hide hC
        clear hC
        by_cases h0 : C = 0
        · subst h0
          have hcr : RowB w1 p l := (unhide HR).below hp hb1
          obtain ⟨hc1, hk1⟩ := (CpS.start hcr (unhide HE)).skip (unhide HX) (unhide HY) (unhide HC)
          have hk2 : (cpt (l.take (q + 2))).length = q + 1 := by rw [hk1, unhide HE, List.length_take, unhide HN]; omega
          have HC1 := hide hc1
          have HK2 := hide hk2
          have hcq : ¬ c = q + 1 := by omega
          have hqc : (q : Int) + 1 ≤ (c : Int) := by omega
          have hpw1 : p < w1.heap.size := Nat.lt_of_lt_of_le hp hb1.size
          have bp1 := hb1.mono (Nat.le_of_lt hp)
          clear hcr hc1 hk1 hk2 HE HX HY HC hb1 g1 hS0 hpr hb
          go_wp2_with fail
          go_loopw [7, 5] (fun vj vk ws => ∃ t kk : Nat, q + 1 + t + 1 ≤ n ∧ kk ≤ q + 1 + t ∧ vj = .int .i64 ((t : Int) + 1) ∧ vk = .int .i64 (kk : Int) ∧ vl.Hid ((cpt (l.take (q + 1 + t + 1))).length = kk) ∧ vl.Hid (CpS l p (q + 1 + t + 1) ws) ∧ Below p w ws ∧ p < ws.heap.size) (fun vj _ _ => n - (intOf vj).toNat)
          case atStart => exact ⟨0, q + 1, by omega, by omega, rfl, by simp, HK2, HC1, bp1, hpw1⟩
          case round =>
            obtain ⟨t, kk, ht, hkk, rfl, rfl, HK, HCS, hbs, hps⟩ := hrel
            have hVs : Below V.heap.size V wr := hV.trans (hbs.mono hVp)
            by_cases hlt2 : q + 1 + t + 1 < n
            · have li : (t : Int) + 1 < ((n - (q + 1) : Nat) : Int) := by omega
              have li0 : (t : Int) < ((n - (q + 1) : Nat) : Int) := by omega
              have kt : (t : Int) + 1 - 1 = (t : Int) := by omega
              have kt0 : (0 : Int) ≤ (t : Int) + 1 := by omega
              have ktw : IntKind.i64.wrap (t : Int) = (t : Int) := by rw [IntKind.wrap_i64]; omega
              obtain ⟨x', hx'⟩ : ∃ x', l[q + 1 + t]? = some x' := ⟨_, List.getElem?_eq_getElem (by rw [unhide HN]; omega)⟩
              obtain ⟨y', hy'⟩ : ∃ y', l[q + 1 + t + 1]? = some y' := ⟨_, List.getElem?_eq_getElem (by rw [unhide HN]; omega)⟩
              have rx := (unhide HCS).hi (q + 1 + t) x' (by omega) hx'
              have ry := (unhide HCS).hi (q + 1 + t + 1) y' (by omega) hy'
              have HX := hide hx'
              have HY := hide hy'
              have EQ := hide (fun W (hW : Below V.heap.size V W) => eqB_ok y' x' W hW)
              obtain ⟨xk', xa, xb, ex, ⟨ap', np', cp', rfl⟩, aq', nq', cq', rfl⟩ := x'.cells3
              obtain ⟨yk', ya, yb, ey, ⟨bp', mp', dp', rfl⟩, bq', mq', dq', rfl⟩ := y'.cells3
              have EY := hide ey
              rw [ex] at rx EQ
              rw [ey] at ry EQ
              rw [show (q + 1 + t) * 3 = (q + 1) * 3 + t * 3 by omega] at rx
              rw [show (q + 1 + t + 1) * 3 = (q + 1) * 3 + (t + 1) * 3 by omega] at ry
              have x0 : wr.cell? ⟨p, (q + 1) * 3 + t * 3, none⟩ = some (.int .i64 xk') := rx 0 _ rfl
              have x1 : wr.cell? ⟨p, (q + 1) * 3 + t * 3 + 1, none⟩ = some (.slice ap' np' cp') := rx 1 _ rfl
              have x2 : wr.cell? ⟨p, (q + 1) * 3 + t * 3 + 2, none⟩ = some (.slice aq' nq' cq') := rx 2 _ rfl
              have y0 : wr.cell? ⟨p, (q + 1) * 3 + (t + 1) * 3, none⟩ = some (.int .i64 yk') := ry 0 _ rfl
              have y1 : wr.cell? ⟨p, (q + 1) * 3 + (t + 1) * 3 + 1, none⟩ = some (.slice bp' mp' dp') := ry 1 _ rfl
              have y2 : wr.cell? ⟨p, (q + 1) * 3 + (t + 1) * 3 + 2, none⟩ = some (.slice bq' mq' dq') := ry 2 _ rfl
              clear rx ry hx' hy' ex ey
              go_wp2_with fail
              have hS0 : Gr wr { wr with drawn := wr.drawn + 1 } := (Gr.refl _).drew
              refine wp_region_noPanic ?_
              refine wp_region_held (S := fun w' => Gr wr w') mixed ?_
              refine wpAnyH_take (i := 0) (v := ?v11) rfl (by kernel_rfl) (by kernel_rfl) (by kernel_rfl) (fun _ _ _ h => h) (Or.inl ⟨by rfl, ?hy11⟩) hS0 ?_
              case hy11 => (intro w' hw'; have a0 := keepC hw'.1 hps x0; have a1 := keepC hw'.1 hps x1; have a2 := keepC hw'.1 hps x2; have b0 := keepC hw'.1 hps y0; have b1 := keepC hw'.1 hps y1; have b2 := keepC hw'.1 hps y2; go_simp; try with_reducible rfl)
              simp only [List.getElem_toArray, List.getElem_cons_zero, List.getElem_cons_succ, Act.put, List.setIfInBounds_toArray, List.set_cons_zero, List.set_cons_succ]
              refine wpAnyH_take (i := 1) (v := ?v12) rfl (by kernel_rfl) (by kernel_rfl) (by kernel_rfl) (fun _ _ _ h => h) (Or.inl ⟨by rfl, ?hy12⟩) hS0 ?_
              case hy12 => (intro w' hw'; have a0 := keepC hw'.1 hps x0; have a1 := keepC hw'.1 hps x1; have a2 := keepC hw'.1 hps x2; have b0 := keepC hw'.1 hps y0; have b1 := keepC hw'.1 hps y1; have b2 := keepC hw'.1 hps y2; go_simp; try with_reducible rfl)
              simp only [List.getElem_toArray, List.getElem_cons_zero, List.getElem_cons_succ, Act.put, List.setIfInBounds_toArray, List.set_cons_zero, List.set_cons_succ]
              refine wpAnyH_take (i := 2) (v := ?v13) rfl (by kernel_rfl) (by kernel_rfl) (by kernel_rfl) (fun _ _ _ h => h) (Or.inl ⟨by rfl, ?hy13⟩) hS0 ?_
              case hy13 => (intro w' hw'; have a0 := keepC hw'.1 hps x0; have a1 := keepC hw'.1 hps x1; have a2 := keepC hw'.1 hps x2; have b0 := keepC hw'.1 hps y0; have b1 := keepC hw'.1 hps y1; have b2 := keepC hw'.1 hps y2; go_simp; try with_reducible rfl)
              simp only [List.getElem_toArray, List.getElem_cons_zero, List.getElem_cons_succ, Act.put, List.setIfInBounds_toArray, List.set_cons_zero, List.set_cons_succ]
              refine wpAnyH_take (i := 3) (v := ?v14) rfl (by kernel_rfl) (by kernel_rfl) (by kernel_rfl) (fun _ _ _ h => h) (Or.inl ⟨by rfl, ?hy14⟩) hS0 ?_
              case hy14 => (intro w' hw'; have a0 := keepC hw'.1 hps x0; have a1 := keepC hw'.1 hps x1; have a2 := keepC hw'.1 hps x2; have b0 := keepC hw'.1 hps y0; have b1 := keepC hw'.1 hps y1; have b2 := keepC hw'.1 hps y2; go_simp; try with_reducible rfl)
              simp only [List.getElem_toArray, List.getElem_cons_zero, List.getElem_cons_succ, Act.put, List.setIfInBounds_toArray, List.set_cons_zero, List.set_cons_succ]
              refine wpAnyH_take (i := 4) (v := ?v15) rfl (by kernel_rfl) (by kernel_rfl) (by kernel_rfl) (fun _ _ _ h => h) (Or.inl ⟨by rfl, ?hy15⟩) hS0 ?_
              case hy15 => (intro w' hw'; have a0 := keepC hw'.1 hps x0; have a1 := keepC hw'.1 hps x1; have a2 := keepC hw'.1 hps x2; have b0 := keepC hw'.1 hps y0; have b1 := keepC hw'.1 hps y1; have b2 := keepC hw'.1 hps y2; go_simp; try with_reducible rfl)
              simp only [List.getElem_toArray, List.getElem_cons_zero, List.getElem_cons_succ, Act.put, List.setIfInBounds_toArray, List.set_cons_zero, List.set_cons_succ]
              refine wpAnyH_take (i := 5) (v := ?v16) rfl (by kernel_rfl) (by kernel_rfl) (by kernel_rfl) (fun _ _ _ h => h) (Or.inl ⟨by rfl, ?hy16⟩) hS0 ?_
              case hy16 => (intro w' hw'; have a0 := keepC hw'.1 hps x0; have a1 := keepC hw'.1 hps x1; have a2 := keepC hw'.1 hps x2; have b0 := keepC hw'.1 hps y0; have b1 := keepC hw'.1 hps y1; have b2 := keepC hw'.1 hps y2; go_simp; try with_reducible rfl)
              simp only [List.getElem_toArray, List.getElem_cons_zero, List.getElem_cons_succ, Act.put, List.setIfInBounds_toArray, List.set_cons_zero, List.set_cons_succ]
              refine wpAnyH_take (i := 6) (v := ?v17) rfl (by kernel_rfl) (by kernel_rfl) (by kernel_rfl) (fun _ _ _ h => h) (Or.inl ⟨by rfl, ?hy17⟩) hS0 ?_
              case hy17 => (intro w' hw'; have a0 := keepC hw'.1 hps x0; have a1 := keepC hw'.1 hps x1; have a2 := keepC hw'.1 hps x2; have b0 := keepC hw'.1 hps y0; have b1 := keepC hw'.1 hps y1; have b2 := keepC hw'.1 hps y2; go_simp; try with_reducible rfl)
              simp only [List.getElem_toArray, List.getElem_cons_zero, List.getElem_cons_succ, Act.put, List.setIfInBounds_toArray, List.set_cons_zero, List.set_cons_succ]
              refine wpAnyH_take (i := 7) (v := ?v18) rfl (by kernel_rfl) (by kernel_rfl) (by kernel_rfl) (fun _ _ _ h => h) (Or.inl ⟨by rfl, ?hy18⟩) hS0 ?_
              case hy18 => (intro w' hw'; have a0 := keepC hw'.1 hps x0; have a1 := keepC hw'.1 hps x1; have a2 := keepC hw'.1 hps x2; have b0 := keepC hw'.1 hps y0; have b1 := keepC hw'.1 hps y1; have b2 := keepC hw'.1 hps y2; go_simp; try with_reducible rfl)
              simp only [List.getElem_toArray, List.getElem_cons_zero, List.getElem_cons_succ, Act.put, List.setIfInBounds_toArray, List.set_cons_zero, List.set_cons_succ]
              refine wpAnyH_take (i := 8) (v := ?v19) rfl (by kernel_rfl) (by kernel_rfl) (by kernel_rfl) (fun _ _ _ h => h) (Or.inl ⟨by rfl, ?hy19⟩) hS0 ?_
              case hy19 => (intro w' hw'; have a0 := keepC hw'.1 hps x0; have a1 := keepC hw'.1 hps x1; have a2 := keepC hw'.1 hps x2; have b0 := keepC hw'.1 hps y0; have b1 := keepC hw'.1 hps y1; have b2 := keepC hw'.1 hps y2; go_simp; try with_reducible rfl)
              simp only [List.getElem_toArray, List.getElem_cons_zero, List.getElem_cons_succ, Act.put, List.setIfInBounds_toArray, List.set_cons_zero, List.set_cons_succ]
              refine wpAnyH_take (i := 9) (v := ?v20) rfl (by kernel_rfl) (by kernel_rfl) (by kernel_rfl) (fun _ _ _ h => h) (Or.inl ⟨by rfl, ?hy20⟩) hS0 ?_
              case hy20 => (intro w' hw'; have a0 := keepC hw'.1 hps x0; have a1 := keepC hw'.1 hps x1; have a2 := keepC hw'.1 hps x2; have b0 := keepC hw'.1 hps y0; have b1 := keepC hw'.1 hps y1; have b2 := keepC hw'.1 hps y2; go_simp; try with_reducible rfl)
              simp only [List.getElem_toArray, List.getElem_cons_zero, List.getElem_cons_succ, Act.put, List.setIfInBounds_toArray, List.set_cons_zero, List.set_cons_succ]
              refine rgn.one (i := 10) _ rfl (by kernel_rfl) (by rfl) ?_
              simp only [List.getElem_toArray, List.getElem_cons_zero, List.getElem_cons_succ, Act.put, List.setIfInBounds_toArray, List.set_cons_zero, List.set_cons_succ]
              go_wp2_with fail
              refine (unhide EQ _ hVs.drew).mono ?_
              rintro e w2 ⟨rfl, g2⟩
              have g3 := hS0.trans g2
              refine ⟨g3, ?_⟩
              try simp only [List.getElem_toArray, List.getElem_cons_zero, List.getElem_cons_succ, Act.put, List.setIfInBounds_toArray, List.set_cons_zero, List.set_cons_succ]
              replace hS0 := g3
              refine wpAnyH_take (i := 11) (v := ?v21) rfl (by kernel_rfl) (by kernel_rfl) (by kernel_rfl) (fun _ _ _ h => h) (Or.inl ⟨by rfl, ?hy21⟩) hS0 ?_
              case hy21 => (intro w' hw';  go_simp; try with_reducible rfl)
              simp only [List.getElem_toArray, List.getElem_cons_zero, List.getElem_cons_succ, Act.put, List.setIfInBounds_toArray, List.set_cons_zero, List.set_cons_succ]
              refine wpAnyH_done (by kernel_rfl) ?_ _; refine NoPanic.normal ?_
              have hps2 : p < w2.heap.size := Nat.lt_of_lt_of_le hps g3.1.size
              have hbs2 : Below p w w2 := hbs.trans (g3.1.mono (Nat.le_of_lt hps))
              have HCS2 := hide ((unhide HCS).below hps g3.1)
              have c0 := keepC g3.1 hps y0
              have c1 := keepC g3.1 hps y1
              have c2 := keepC g3.1 hps y2
              clear x0 x1 x2 y0 y1 y2 EQ hS0 g2 g3
              obtain ⟨C', hC'⟩ : ∃ C', (y'.cf x' == 0) = C' := ⟨_, rfl⟩
              rw [hC']
              have HC' := hide hC'
              clear hC'
              cases C' with
              | true =>
                obtain ⟨s1, s2⟩ := (unhide HCS2).skip (unhide HX) (unhide HY) (by simpa using unhide HC')
                have S1 := hide s1
                have S2 := hide (s2.trans (unhide HK))
                clear s1 s2
                go_wp2
                go_roundw
                case rel => exact ⟨t + 1, kk, by omega, by omega, by simp, rfl, S2, S1, hbs2, hps2⟩
                case measure => simp [intOf]; omega
              | false =>
                obtain ⟨s1, s2⟩ := (unhide HCS2).put (unhide HX) (unhide HY) (by simpa using unhide HC') kk (unhide HK).symm hkk
                rw [unhide EY] at s1
                have hthr := (unhide HCS2).thr
                have hkn : kk < n := by omega
                have f0 : w2.frozen? ⟨p, kk * 3, none⟩ = false := by have := (hthr (kk * 3) (by rw [unhide HN]; omega)).2; simpa using this
                have f1 : w2.frozen? ⟨p, kk * 3 + 1, none⟩ = false := by have := (hthr (kk * 3 + 1) (by rw [unhide HN]; omega)).2; simpa using this
                have f2 : w2.frozen? ⟨p, kk * 3 + 2, none⟩ = false := by have := (hthr (kk * 3 + 2) (by rw [unhide HN]; omega)).2; simpa using this
                have i0 : (w2.cell? ⟨p, kk * 3, none⟩).isSome = true := by have := (hthr (kk * 3) (by rw [unhide HN]; omega)).1; simpa using this
                have i1 : (w2.cell? ⟨p, kk * 3 + 1, none⟩).isSome = true := by have := (hthr (kk * 3 + 1) (by rw [unhide HN]; omega)).1; simpa using this
                have i2 : (w2.cell? ⟨p, kk * 3 + 2, none⟩).isSome = true := by have := (hthr (kk * 3 + 2) (by rw [unhide HN]; omega)).1; simpa using this
                obtain ⟨v0, k0⟩ := Option.isSome_iff_exists.1 i0
                obtain ⟨v1, k1⟩ := Option.isSome_iff_exists.1 i1
                obtain ⟨v2, k2⟩ := Option.isSome_iff_exists.1 i2
                have kki : (kk : Int) < (n : Int) := by omega
                have S1 := hide s1
                have S2 := hide s2
                clear s1 s2 hthr i0 i1 i2
                go_wp2_with fail
                rw [set3F]
                exact ⟨⟨t + 1, kk + 1, by omega, by omega, by simp, by simp, S2, S1, below_setCells _ _ _ _ hbs2 (Nat.le_refl _), by rw [size_setCells]; exact hps2⟩, by simp [intOf]; omega⟩
            · have hnt : n = q + 1 + t + 1 := by omega
              have hkl := unhide HK
              have hcl := unhide HCS
              rw [← hnt, List.take_of_length_le (Nat.le_of_eq (unhide HN))] at hkl
              have HKL := hide hkl
              have hlo : ∀ (i : Nat) (x : Fb V), (cpt l)[i]? = some x → wr.rangeAt p (i * 3) x.enc := by
                have := hcl.lo
                rwa [← hnt, List.take_of_length_le (Nat.le_of_eq (unhide HN))] at this
              have hthr := hcl.thr
              have li : ¬ ((t : Int) + 1 < ((n - (q + 1) : Nat) : Int)) := by omega
              have hkn : kk < n := by omega
              have hkc : ¬ c = kk := by omega
              have hkci : (kk : Int) ≤ (c : Int) := by omega
              have hkni : (kk : Int) ≤ (n : Int) := by omega
              have CL := run_clearF wr 0 p (kk * 3) (n - kk) (c - kk) (by omega) (fun j hj => by
                have := hthr (kk * 3 + j) (by rw [unhide HN]; omega)
                rw [Nat.zero_add] at this
                exact this)
              obtain ⟨X, hX⟩ : ∃ X, X = wr.setCells p (kk * 3) (Builtin.zeroCells #[.int .i64 0, .slice none 0 0, .slice none 0 0] (n - kk)).toList := ⟨_, rfl⟩
              have hXr : RowB X p (cpt l) := by
                rw [hX]
                refine ⟨fun i x hx => World.rangeAt_setCells_apart (hlo i x hx) _ _ _ (.inr (.inl ?_)), fun j hj => World.there_setCells hthr _ _ _ j (by rw [unhide HN]; rw [hkl] at hj; omega)⟩
                have := (List.getElem?_eq_some_iff.1 hx).1
                rw [hkl] at this
                rw [x.len]
                omega
              have hXb : Below p w X := by rw [hX]; exact below_setCells _ _ _ _ hbs (Nat.le_refl _)
              rw [← hX] at CL
              have HXr := hide hXr
              clear hX hXr hlo hthr hcl hkl hnt
              go_wp2
              go_ret
              exact ⟨kk, rfl, unhide HXr, (unhide HKL).symm, hXb⟩
        · have hC0 : (C == 0) = false := by simpa using h0
          have HE2 := hide (show cpt (l.take (q + 2)) = l.take (q + 2) by
            rw [cpt_take (unhide HX) (unhide HY), if_neg (by rw [unhide HC]; exact h0), unhide HE, List.take_add_one (i := q + 1), unhide HY]; rfl)
          clear HE HC h0
          go_wp2
          go_roundw
          case rel => exact ⟨q + 1, by omega, by simp, HE2, hb1⟩
          case measure => simp [intOf]; omega
      · obtain rfl : n = q + 1 := by omega
        have E := hide (show cpt l = l by have := unhide HE; rwa [List.take_of_length_le (by rw [unhide HN]; omega)] at this)
        have ki : ¬ ((q : Int) + 1 < ((q + 1 : Nat) : Int)) := by omega
        go_wp2
        go_ret
        exact ⟨q + 1, rfl, by rw [unhide E]; exact (unhide HR).below hp hb, by rw [unhide E]; exact (unhide HN).symm, hb.mono (Nat.le_of_lt hp)⟩
end Go.Proofs.Ythpcpminikmcbaa.og
namespace Go.Proofs.Ythpcpminikmcbaa.og
open Go.ChangeShapes Go.WideShapes Go.ChangeAt Go.RowKit Go.Shelf
open vl hiding cB cFl cS cF cI cK cIt
open stp (St Pth St3 pN pI)
set_option linter.unusedVariables false
set_option linter.unusedSimpArgs false
/-- a step with what its kind doesn't use at zero -/
def pl (s : St) : St := ⟨pN s.nm s.it, pI s.ix s.it, s.it⟩
def stK (s : St) : List Value := [.string s.nm, .int .i64 s.ix, .bool s.it]
theorem makeS (n : Nat) (w : World) (hn : n ≤ 1048576) : ∃ Z : Array Value, Z.size = n * 3 ∧ (Instr.makeSlice 29 (.int .i64 n) (.int .i64 n)).run Try.prog w = .ok (.slice (some ⟨w.heap.size, 0, none⟩) n n) (w.alloc (.cells Z 34)) := by
  have hin : (Try.prog.info? 34).map (fun i => (i.bytes, i.size, i.zero.isSome)) = some (32, 3, true) := by kernel_rfl
  cases hq : Try.prog.info? 34 with
  | none => simp [hq] at hin
  | some i =>
    simp [hq] at hin
    obtain ⟨h1, h2, h3⟩ := hin
    obtain ⟨z, hz⟩ := Option.isSome_iff_exists.1 h3
    have := run_make (P := Try.prog) w 29 34 i z Try.underlying29 hq hz .i64 .i64 n n (by omega) (Int.le_refl _) (by rw [h1]; omega) (by omega)
    simp only [Int.toNat_natCast, h2] at this
    exact ⟨_, size_madeCells _ _, this⟩
structure EaS (ss : List St) (g n k : Nat) (w : World) : Prop where
  row : ∀ (i : Nat) (s : St), i < k → ss[i]? = some s → w.rangeAt g (i * 3) (stK (pl s))
  thr : w.there g 0 (n * 3)
  lt : g < w.heap.size
theorem EaS.below {ss : List St} {g n k : Nat} {w w' : World} (h : EaS ss g n k w) (hb : Below w.heap.size w w') : EaS ss g n k w' :=
  ⟨fun i s hi hs j u hu => (hb.cell (p := ⟨g, i * 3 + j, none⟩) h.lt).trans (h.row i s hi hs j u hu), fun j hj => by
    have := h.thr j hj
    exact ⟨by rw [hb.cell (p := ⟨g, 0 + j, none⟩) h.lt]; exact this.1, by rw [hb.frozen (p := ⟨g, 0 + j, none⟩) h.lt]; exact this.2⟩, Nat.lt_of_lt_of_le h.lt hb.size⟩
theorem EaS.put {ss : List St} {g n k : Nat} {w : World} {s : St} (h : EaS ss g n k w) (hk : k < n) (hs : ss[k]? = some s) : EaS ss g n (k + 1) (w.setCells g (k * 3) (stK (pl s))) := by
  have hth : w.there g (k * 3) (stK (pl s)).length := fun j hj => by
    have hj3 : j < 3 := hj
    have := h.thr (k * 3 + j) (by omega)
    rw [Nat.zero_add] at this
    exact this
  refine ⟨fun i t hi ht => ?_, World.there_setCells h.thr _ _ _, by rw [size_setCells]; exact h.lt⟩
  by_cases e : i = k
  · subst e
    rw [hs] at ht
    cases ht
    exact World.rangeAt_setCells_same w g _ _ hth
  · exact World.rangeAt_setCells_apart (h.row i t (by omega) ht) _ _ _ (.inr (.inl (by show i * 3 + 3 ≤ k * 3; omega)))
theorem EaS.pth {ss : List St} {g n : Nat} {w : World} (h : EaS ss g n n w) (hn : ss.length = n) : Pth w (some ⟨g, 0, none⟩) n (ss.map pl) := by
  refine ⟨by rw [List.length_map, hn], .inr ⟨g, 0, rfl, h.lt, fun i hi => ?_⟩⟩
  have e := List.getElem?_eq_getElem (show i < ss.length by omega)
  have := h.row i _ hi e
  rw [Nat.zero_add]
  exact ⟨pl ss[i], by rw [List.getElem?_map, e]; rfl, this 0 _ rfl, this 1 _ rfl, this 2 _ rfl⟩
theorem eachS_nil (c : Nat) (f : Value) (w : World) : Calls Try.prog 43 #[.slice none 0 c, f] w fun e w' => e = .returned (.slice none 0 0) ∧ w = w' := by
  have hnil : ∀ (w : World) (a : Option Addr) (n c n' c' : Nat), (binOp .eql 29 (.slice a n c) (.slice none n' c')).run Try.prog w = .ok (.bool a.isNone) w := fun w a n c n' c' => Lib.run_eql_slice_nil w _ _ a n c n' c' Try.underlying29
  go_enter Try.func43, Try.ntmps43
  go_wp2
  go_ret
  exact ⟨rfl, rfl⟩
set_option maxHeartbeats 2000000 in
set_option maxRecDepth 100000 in
theorem eachS_some (ss : List St) (a : Addr) (n c : Nat) (w : World) (hp : Pth w (some a) n ss) (hn : n ≤ 1048576) :
    Calls Try.prog 43 #[.slice (some a) n c, .func (.func 44) #[] #[]] w fun e w' => e = .returned (.slice (some ⟨w.heap.size, 0, none⟩) n n) ∧ Pth w' (some ⟨w.heap.size, 0, none⟩) n (ss.map pl) ∧ Below w.heap.size w w' ∧ w.heap.size < w'.heap.size := by
  have en : ∀ args w, (callFunc 44 args).run Try.prog w = .ok (.enter 44 args) w := enters_of Try.func44 (by kernel_rfl) rfl
  obtain ⟨Z, hZ, hmk⟩ := makeS n w hn
  obtain ⟨W0, hW0⟩ : ∃ W0, W0 = w.alloc (.cells Z 34) := ⟨_, rfl⟩
  have hB0 : Below w.heap.size w W0 := by rw [hW0]; exact (Below.refl _ _).alloc (Nat.le_refl _) _
  have E0 : EaS ss w.heap.size n 0 W0 := by
    refine ⟨fun i s hi => absurd hi (Nat.not_lt_zero _), fun j hj => ?_, by rw [hW0]; simp⟩
    rw [hW0, Nat.zero_add, World.cell?_alloc_at _ _ _ _ rfl]
    refine ⟨by rw [Array.getElem?_eq_getElem (by omega)]; rfl, by simp⟩
  rw [← hW0] at hmk
  have HE := hide E0
  have HP := hide hp
  have HL := hide hp.len
  clear hW0 E0 hp hZ
  have hnil : ∀ (w : World) (a : Option Addr) (n c n' c' : Nat), (binOp .eql 29 (.slice a n c) (.slice none n' c')).run Try.prog w = .ok (.bool a.isNone) w := fun w a n c n' c' => Lib.run_eql_slice_nil w _ _ a n c n' c' Try.underlying29
  go_enter Try.func43, Try.ntmps43
  go_wp2_with fail
  clear hmk
  go_loopw [15] (fun vi wr => ∃ k : Nat, k ≤ n ∧ vi = .int .i64 k ∧ vl.Hid (EaS ss w.heap.size n k wr) ∧ Below w.heap.size w wr) (fun vi _ => n - (intOf vi).toNat)
  case atStart => exact ⟨0, Nat.zero_le _, rfl, HE, hB0⟩
  case round =>
    clear HE hB0
    obtain ⟨k, hk, rfl, HE, hb⟩ := hrel
    by_cases hlt : k < n
    · have ki : (k : Int) < (n : Int) := by omega
      rcases ((unhide HP).below hb).at_ with h0 | ⟨b, off, e, hbw, hcell⟩
      · omega
      cases e
      obtain ⟨s, hs, u0, u1, u2⟩ := hcell k hlt
      have HS := hide hs
      obtain ⟨nm, ix, it⟩ := s
      have PL := hide (fun W => stp.plain_any nm ix it W)
      simp only at u0 u1 u2
      clear hcell hs
      go_wp2_with fail
      refine (unhide PL _).mono ?_
      rintro e w1 ⟨rfl, b1⟩
      have hbw1 : Below wr.heap.size wr w1 := ((Below.refl _ _).alloc (Nat.le_refl _) _).trans (b1.mono (by simp))
      have e1 := (unhide HE).below hbw1
      have hthr := e1.thr
      have hb1 : Below w.heap.size w w1 := hb.trans (hbw1.mono hb.size)
      have f0 : w1.frozen? ⟨w.heap.size, k * 3, none⟩ = false := by have := (hthr (k * 3) (by omega)).2; simpa using this
      have f1 : w1.frozen? ⟨w.heap.size, k * 3 + 1, none⟩ = false := by have := (hthr (k * 3 + 1) (by omega)).2; simpa using this
      have f2 : w1.frozen? ⟨w.heap.size, k * 3 + 2, none⟩ = false := by have := (hthr (k * 3 + 2) (by omega)).2; simpa using this
      obtain ⟨v0, k0⟩ := Option.isSome_iff_exists.1 (show (w1.cell? ⟨w.heap.size, k * 3, none⟩).isSome = true by have := (hthr (k * 3) (by omega)).1; simpa using this)
      obtain ⟨v1, k1⟩ := Option.isSome_iff_exists.1 (show (w1.cell? ⟨w.heap.size, k * 3 + 1, none⟩).isSome = true by have := (hthr (k * 3 + 1) (by omega)).1; simpa using this)
      obtain ⟨v2, k2⟩ := Option.isSome_iff_exists.1 (show (w1.cell? ⟨w.heap.size, k * 3 + 2, none⟩).isSome = true by have := (hthr (k * 3 + 2) (by omega)).1; simpa using this)
      have E2 := hide (e1.put hlt (unhide HS))
      unfold pl stK at E2
      simp only at E2
      clear PL u0 u1 u2 e1 hthr b1 hbw1 HE
      go_wp2_with fail
      rw [set3F]
      exact ⟨⟨k + 1, by omega, by simp, E2, below_setCells _ _ _ _ hb1 (Nat.le_refl _)⟩, by simp [intOf]; omega⟩
    · obtain rfl : k = n := by omega
      go_wp2
      go_ret
      exact ⟨rfl, (unhide HE).pth (unhide HL), hb, (unhide HE).lt⟩
end Go.Proofs.Ythpcpminikmcbaa.og
namespace Go.Proofs.Ythpcpminikmcbaa.og
open Go.ChangeShapes Go.WideShapes Go.ChangeAt Go.RowKit Go.Shelf
open vl hiding cB cFl cS cF cI cK cIt
open stp (St Pth St3 pN pI)
set_option linter.unusedVariables false
set_option linter.unusedSimpArgs false
/-- the fault as Faults answers it -/
def can (f : Ft) : Ft := ⟨f.kd, f.ps, f.pt.map pl⟩
abbrev GrP (B : Nat) (l : List (Int × Int)) (sl : Value) (w : World) : Prop := GrV (fun p cs => cs = posC p) 52 2 B l sl w
theorem infoPo : ∃ i z, Try.prog.info? 52 = some i ∧ i.zero = some z ∧ i.size = 2 ∧ i.bytes = 16 ∧ z.cells.size = 2 := by
  have hin : (Try.prog.info? 52).map (fun i => (i.bytes, i.size, i.zero.isSome, (i.zero.map (fun z => z.cells.size)))) = some (16, 2, true, some 2) := by kernel_rfl
  cases hq : Try.prog.info? 52 with
  | none => simp [hq] at hin
  | some i =>
    simp [hq] at hin
    obtain ⟨h1, h2, h3, z, hz, h4⟩ := hin
    exact ⟨i, z, rfl, hz, h2, h1, h4⟩
theorem flat2 : ∀ (l : List (Int × Int)) (j : Nat) (u : Value), (l.map posC).flatten[j]? = some u → ∃ k x r, l[k]? = some x ∧ j = k * 2 + r ∧ (posC x)[r]? = some u
  | [], j, u, h => by simp at h
  | a :: l, j, u, h => by
    rw [List.map_cons, List.flatten_cons] at h
    by_cases hj : j < 2
    · rw [List.getElem?_append_left (show j < (posC a).length from hj)] at h
      exact ⟨0, a, j, rfl, by omega, h⟩
    · rw [List.getElem?_append_right (show (posC a).length ≤ j by show 2 ≤ j; omega)] at h
      obtain ⟨k, x, r, h1, h2, h3⟩ := flat2 l (j - 2) u h
      exact ⟨k + 1, x, r, by simpa using h1, by omega, h3⟩
theorem flat2_get : ∀ (l : List (Int × Int)) (k : Nat) (x : Int × Int) (r : Nat) (u : Value), l[k]? = some x → (posC x)[r]? = some u → (l.map posC).flatten[k * 2 + r]? = some u
  | [], k, x, r, u, h, _ => by simp at h
  | a :: l, k, x, r, u, h, hu => by
    rw [List.map_cons, List.flatten_cons]
    have hr : r < 2 := (List.getElem?_eq_some_iff.1 hu).1
    cases k with
    | zero =>
      obtain rfl : a = x := by simpa using h
      rw [List.getElem?_append_left (show 0 * 2 + r < (posC a).length by show 0 * 2 + r < 2; omega), Nat.zero_mul, Nat.zero_add]
      exact hu
    | succ k =>
      rw [List.getElem?_append_right (show (posC a).length ≤ (k + 1) * 2 + r by show 2 ≤ (k + 1) * 2 + r; omega)]
      have := flat2_get l k x r u (by simpa using h) hu
      rw [show (k + 1) * 2 + r - (posC a).length = k * 2 + r by show (k + 1) * 2 + r - 2 = k * 2 + r; omega]
      exact this
theorem flat2_len : ∀ (l : List (Int × Int)), (l.map posC).flatten.length = l.length * 2
  | [] => rfl
  | a :: l => by rw [List.map_cons, List.flatten_cons, List.length_append, flat2_len l, List.length_cons]; show 2 + _ = _; omega
/-- a copy of places, in new memory -/
theorem wp_catP {w : World} {l : List (Int × Int)} {ai : Option Addr} {ni ci : Nat} {ops : Array Oper} {rest : List Oper} {o : Oper} {a : Act} {Q : Exit → Act → World → Prop} (hF : PosAt w ai ni l) (hle : ni ≤ ci) (hnil : ai = none → ci = 0) (hn : ni ≤ 1048576) (hgd : o.guard = none) (s x : Operand)
    (ho : o.op = .call { callee := .builtin .append, args := #[s, x], argTypes := #[53, 53] }) (hs : a.eval s = .slice none 0 0) (hx : a.eval x = .slice ai ni ci)
    (h : ∀ aj cj w', GrP w.heap.size l (.slice aj l.length cj) w' → Below w.heap.size w w' → wpList Try.prog ops Q rest (a.put o.dst (.slice aj l.length cj)) w') : wpList Try.prog ops Q (o :: rest) a w := by
  obtain ⟨i, z, hi, hz, hsz, hb, hc⟩ := infoPo
  have hl := hF.len
  have hrow : w.ownsRow w.heap.size 52 2 (.slice none 0 0) 0 [] := ⟨rfl, .inl ⟨rfl, rfl⟩⟩
  cases ai with
  | none =>
    obtain rfl : ci = 0 := hnil rfl
    obtain rfl : ni = 0 := by omega
    obtain rfl : l = [] := List.eq_nil_of_length_eq_zero hl
    refine wpList_plain hgd fun K hK' => ?_
    have hrun := run_append_owned_none (P := Try.prog) w w.heap.size 53 o.type 52 i 2 Try.underlying53 hi _ 0 _ hrow
    unfold Oper.wp
    simp [execOp, ho, resolve, invoke, builtin, hs, hx, hrun, Result.andThen]
    exact hK' _ _ (h none 0 w GrV.nil (Below.refl _ _))
  | some ad =>
    refine wpList_append_own _ hgd s x _ ho w.heap.size 52 i z 2 16 Try.underlying53 hi hz hsz hb hc (by omega) _ 0 [] hs hrow ad ni ci (l.map posC).flatten hx (by rw [flat2_len, hl]) ?_ ?_ (by unfold maxLen; omega) (by omega) (Nat.le_refl _) ?_
    · intro j u hu
      obtain ⟨k, y, r, h1, rfl, h3⟩ := flat2 l j u hu
      rcases hF.at_ with h0 | ⟨b, off, ha, hbl, hcell⟩
      · have := (List.getElem?_eq_some_iff.1 h1).1
        omega
      · cases ha
        have := hcell k y h1 r u h3
        rw [Addr.add_lit, show off + (k * 2 + r) = off + k * 2 + r by omega]
        exact this
    · intro u hu
      rw [List.mem_flatten] at hu
      obtain ⟨cs, hcs, hu⟩ := hu
      rw [List.mem_map] at hcs
      obtain ⟨y, -, rfl⟩ := hcs
      simp [posC] at hu
      rcases hu with rfl | rfl <;> rfl
    · intro v' w' hown hgr _
      have hG' : GrP w.heap.size l v' w' := ⟨l.map posC, by rw [hl]; simpa using hown, P2.map posC _⟩
      obtain ⟨aj, cj, rfl⟩ := grv_form hG'
      exact h aj cj w' hG' ((Below.refl _ _).grown hgr (Nat.le_refl _) (fun q hq => by simp [Value.ownBlock] at hq))
theorem GrP.pos {B : Nat} {l : List (Int × Int)} {aj : Option Addr} {cj : Nat} {w : World} (h : GrP B l (.slice aj l.length cj) w) : PosAt w aj l.length l ∧ l.length ≤ cj ∧ (aj = none → cj = 0) ∧ cj ≤ maxLen ∧ ∀ g off, aj = some ⟨g, off, none⟩ → B ≤ g ∧ g < w.heap.size := by
  obtain ⟨xss, h1, h2⟩ := h
  obtain rfl := P2.map_of _ _ _ h2
  rcases h1.2 with ⟨e, h0⟩ | ⟨g, cap, cur, e, hg, hh, hc1, hc2, r⟩
  · simp only [Value.slice.injEq] at e
    obtain ⟨rfl, h0, rfl⟩ := e
    exact ⟨⟨rfl, .inl h0⟩, by omega, fun _ => rfl, Nat.zero_le _, fun g off e => by cases e⟩
  · have hlt := (h1.lt g (by rw [e]; rfl)).2
    have hcl := h1.cells (v := .slice aj l.length cj) (g := g) (by rw [e]; rfl)
    simp only [Value.slice.injEq] at e
    obtain ⟨rfl, -, rfl⟩ := e
    refine ⟨⟨rfl, .inr ⟨g, 0, rfl, hlt, fun i p hp j u hu => ?_⟩⟩, hc1, fun e => (by cases e), hc2, fun g' off e => by cases e; exact ⟨hg, hlt⟩⟩
    have := hcl _ u (flat2_get l i p j u hp hu)
    rw [Addr.add_mid, Nat.zero_add] at this
    rw [Nat.zero_add]
    exact this
end Go.Proofs.Ythpcpminikmcbaa.og
namespace Go.Proofs.Ythpcpminikmcbaa.og
open Go.ChangeShapes Go.WideShapes Go.ChangeAt Go.RowKit Go.Shelf
open vl hiding cB cFl cS cF cI cK cIt
open stp (St Pth St3 pN pI)
set_option linter.unusedVariables false
set_option linter.unusedSimpArgs false
theorem blk_cell {w w' : World} {b : Nat} (h : w'.heap[b]? = w.heap[b]?) (j : Nat) : w'.cell? ⟨b, j, none⟩ = w.cell? ⟨b, j, none⟩ := World.cell?_of_block (w := w) (a := ⟨b, j, none⟩) h
theorem PosAt.agree {w w' : World} {a : Option Addr} {n : Nat} {ps : List (Int × Int)} (h : PosAt w a n ps) (hs : w.heap.size ≤ w'.heap.size) (hb : ∀ g off, a = some ⟨g, off, none⟩ → w'.heap[g]? = w.heap[g]?) : PosAt w' a n ps := by
  refine ⟨h.len, ?_⟩
  rcases h.at_ with h0 | ⟨b, off, ha, hlt, hc⟩
  · exact .inl h0
  · exact .inr ⟨b, off, ha, Nat.lt_of_lt_of_le hlt hs, fun i p hp j u hu => (blk_cell (hb b off ha) _).trans (hc i p hp j u hu)⟩
theorem pth_agree {w w' : World} {a : Option Addr} {n : Nat} {ss : List St} (h : Pth w a n ss) (hs : w.heap.size ≤ w'.heap.size) (hb : ∀ g off, a = some ⟨g, off, none⟩ → w'.heap[g]? = w.heap[g]?) : Pth w' a n ss := by
  refine ⟨h.len, ?_⟩
  rcases h.at_ with h0 | ⟨b, off, ha, hlt, hc⟩
  · exact .inl h0
  · refine .inr ⟨b, off, ha, Nat.lt_of_lt_of_le hlt hs, fun i hi => ?_⟩
    obtain ⟨s, e, h1, h2, h3⟩ := hc i hi
    exact ⟨s, e, (blk_cell (hb b off ha) _).trans h1, (blk_cell (hb b off ha) _).trans h2, (blk_cell (hb b off ha) _).trans h3⟩
/-- a fault that is read whatever is written into block p -/
def FtF (p : Nat) (w : World) (f : Ft) (cs : List Value) : Prop := ∀ w' : World, w.heap.size ≤ w'.heap.size → (∀ b, b < w.heap.size → b ≠ p → w'.heap[b]? = w.heap[b]?) → FtC w' f cs
theorem FtF.keep {p : Nat} {w w' : World} {f : Ft} {cs : List Value} (h : FtF p w f cs) (hs : w.heap.size ≤ w'.heap.size) (hb : ∀ b, b < w.heap.size → b ≠ p → w'.heap[b]? = w.heap[b]?) : FtF p w' f cs :=
  fun w2 hs2 hb2 => h w2 (Nat.le_trans hs hs2) (fun b h1 h2 => (hb2 b (Nat.lt_of_lt_of_le h1 hs) h2).trans (hb b h1 h2))
theorem FtF.mk {p : Nat} {w : World} {f : Ft} {ap aq : Option Addr} {cp cq : Nat} (h1 : PosAt w ap f.ps.length f.ps) (h2 : Pth w aq f.pt.length f.pt) (hp : ∀ g off, ap = some ⟨g, off, none⟩ → g ≠ p ∧ g < w.heap.size) (hq : ∀ g off, aq = some ⟨g, off, none⟩ → g ≠ p ∧ g < w.heap.size)
    (l1 : f.ps.length ≤ 1048576) (l2 : f.pt.length ≤ 1048576) (l3 : f.ps.length ≤ cp) (l4 : f.pt.length ≤ cq) (n1 : ap = none → cp = 0) (n2 : aq = none → cq = 0) (m1 : cp ≤ maxLen) (m2 : cq ≤ maxLen) : FtF p w f [.int .i64 f.kd, .slice ap f.ps.length cp, .slice aq f.pt.length cq] :=
  fun w' hs hb => ⟨ap, _, cp, aq, _, cq, rfl, h1.agree hs (fun g off e => hb g (hp g off e).2 (hp g off e).1), pth_agree h2 hs (fun g off e => hb g (hq g off e).2 (hq g off e).1), l1, l2, l3, l4, n1, n2, m1, m2⟩
/-- the last loop of Faults: k have been made new -/
structure FnS {V : World} (l : List (Fb V)) (p k : Nat) (w : World) : Prop where
  row : ∀ (i : Nat) (x : Fb V), i < k → l[i]? = some x → ∃ cs, w.rangeAt p (i * 3) cs ∧ FtF p w (can x.ft) cs
  rest : ∀ (i : Nat) (x : Fb V), k ≤ i → l[i]? = some x → w.rangeAt p (i * 3) x.enc
  thr : w.there p 0 (l.length * 3)
  lt : p < w.heap.size
theorem FnS.keep {V : World} {l : List (Fb V)} {p k : Nat} {w w' : World} (h : FnS l p k w) (hb : Below w.heap.size w w') : FnS l p k w' :=
  ⟨fun i x hi hx => by
    obtain ⟨cs, h1, h2⟩ := h.row i x hi hx
    exact ⟨cs, fun j u hu => (hb.cell (p := ⟨p, i * 3 + j, none⟩) h.lt).trans (h1 j u hu), h2.keep hb.size (fun b hl _ => hb.block b hl)⟩, fun i x hi hx j u hu => (hb.cell (p := ⟨p, i * 3 + j, none⟩) h.lt).trans (h.rest i x hi hx j u hu), fun j hj => by
    have := h.thr j hj
    exact ⟨by rw [hb.cell (p := ⟨p, 0 + j, none⟩) h.lt]; exact this.1, by rw [hb.frozen (p := ⟨p, 0 + j, none⟩) h.lt]; exact this.2⟩, Nat.lt_of_lt_of_le h.lt hb.size⟩
theorem setCell_blk (w : World) (p o : Nat) (v : Value) (b : Nat) (h : b ≠ p) : (w.setCell ⟨p, o, none⟩ v).heap[b]? = w.heap[b]? := by
  have := heap_setCells p b h [v] o w
  simpa [World.setCells] using this
/-- the first of the two stores of a round -/
structure FnM {V : World} (l : List (Fb V)) (p k : Nat) (kd : Int) (s1 s2 : Value) (w : World) : Prop where
  row : ∀ (i : Nat) (x : Fb V), i < k → l[i]? = some x → ∃ cs, w.rangeAt p (i * 3) cs ∧ FtF p w (can x.ft) cs
  here : w.rangeAt p (k * 3) [.int .i64 kd, s1, s2]
  rest : ∀ (i : Nat) (x : Fb V), k + 1 ≤ i → l[i]? = some x → w.rangeAt p (i * 3) x.enc
  thr : w.there p 0 (l.length * 3)
  lt : p < w.heap.size
theorem FnM.set {V : World} {l : List (Fb V)} {p k : Nat} {kd : Int} {s1 s2 : Value} {w : World} (h : FnM l p k kd s1 s2 w) (hk : k < l.length) (o : Nat) (ho : o = 1 ∨ o = 2) (v : Value) : FnM l p k kd (if o = 1 then v else s1) (if o = 2 then v else s2) (w.setCell ⟨p, k * 3 + o, none⟩ v) := by
  have hap : ∀ (i : Nat) (cs : List Value), cs.length = 3 → i ≠ k → w.rangeAt p (i * 3) cs → (w.setCell ⟨p, k * 3 + o, none⟩ v).rangeAt p (i * 3) cs := fun i cs hl hi hr => by
    have := World.rangeAt_setCells_apart hr p (k * 3 + o) [v] (by simp; omega)
    simpa [World.setCells] using this
  have hc : (w.setCell ⟨p, k * 3 + o, none⟩ v).cell? ⟨p, k * 3 + o, none⟩ = some v := World.cell?_setCell_same' _ _ _ (by have := (h.thr (k * 3 + o) (by omega)).1; simpa using this)
  have hne : ∀ j, j ≠ o → (w.setCell ⟨p, k * 3 + o, none⟩ v).cell? ⟨p, k * 3 + j, none⟩ = w.cell? ⟨p, k * 3 + j, none⟩ := fun j hj => by
    have := World.cell?_setCells_out p [v] (k * 3 + o) w ⟨p, k * 3 + j, none⟩ (fun _ _ => by simp; omega)
    simpa [World.setCells] using this
  refine ⟨fun i x hi hx => ?_, fun j u hu => ?_, fun i x hi hx => hap i _ x.len (by omega) (h.rest i x hi hx), ?_, ?_⟩
  · obtain ⟨cs, h1, h2⟩ := h.row i x hi hx
    have hl : cs.length = 3 := by
      obtain ⟨_, _, _, _, _, _, e, -⟩ := h2 w (Nat.le_refl _) (fun _ _ _ => rfl)
      rw [e]; rfl
    exact ⟨cs, hap i cs hl (by omega) h1, h2.keep (by simp) (fun b _ hb => setCell_blk _ _ _ _ b hb)⟩
  · have h3 : j < 3 := (List.getElem?_eq_some_iff.1 hu).1
    rcases (show j = 0 ∨ j = 1 ∨ j = 2 by omega) with rfl | rfl | rfl
    · rw [hne 0 (by omega)]
      exact h.here 0 u (by simpa using hu)
    · rcases ho with rfl | rfl
      · simp at hu; subst hu; exact hc
      · rw [hne 1 (by omega)]
        exact h.here 1 u (by simpa using hu)
    · rcases ho with rfl | rfl
      · rw [hne 2 (by omega)]
        exact h.here 2 u (by simpa using hu)
      · simp at hu; subst hu; exact hc
  · have := World.there_setCells h.thr p (k * 3 + o) [v]
    simpa [World.setCells] using this
  · simpa using h.lt
theorem FnM.keep {V : World} {l : List (Fb V)} {p k : Nat} {kd : Int} {s1 s2 : Value} {w w' : World} (h : FnM l p k kd s1 s2 w) (hb : Below w.heap.size w w') : FnM l p k kd s1 s2 w' :=
  ⟨fun i x hi hx => by
    obtain ⟨cs, h1, h2⟩ := h.row i x hi hx
    exact ⟨cs, fun j u hu => (hb.cell (p := ⟨p, i * 3 + j, none⟩) h.lt).trans (h1 j u hu), h2.keep hb.size (fun b hl _ => hb.block b hl)⟩, fun j u hu => (hb.cell (p := ⟨p, k * 3 + j, none⟩) h.lt).trans (h.here j u hu), fun i x hi hx j u hu => (hb.cell (p := ⟨p, i * 3 + j, none⟩) h.lt).trans (h.rest i x hi hx j u hu), fun j hj => by
    have := h.thr j hj
    exact ⟨by rw [hb.cell (p := ⟨p, 0 + j, none⟩) h.lt]; exact this.1, by rw [hb.frozen (p := ⟨p, 0 + j, none⟩) h.lt]; exact this.2⟩, Nat.lt_of_lt_of_le h.lt hb.size⟩
theorem FnS.open_ {V : World} {l : List (Fb V)} {p k : Nat} {w : World} {x : Fb V} {kd : Int} {s1 s2 : Value} (h : FnS l p k w) (hx : l[k]? = some x) (e : x.enc = [.int .i64 kd, s1, s2]) : FnM l p k kd s1 s2 w :=
  ⟨h.row, by rw [← e]; exact h.rest k x (Nat.le_refl _) hx, fun i y hi hy => h.rest i y (by omega) hy, h.thr, h.lt⟩
theorem FnM.shut {V : World} {l : List (Fb V)} {p k : Nat} {w : World} {x : Fb V} {kd : Int} {s1 s2 : Value} (h : FnM l p k kd s1 s2 w) (hx : l[k]? = some x) (hf : FtF p w (can x.ft) [.int .i64 kd, s1, s2]) : FnS l p (k + 1) w := by
  refine ⟨fun i y hi hy => ?_, h.rest, h.thr, h.lt⟩
  by_cases e : i = k
  · subst e
    rw [hx] at hy
    cases hy
    exact ⟨_, h.here, hf⟩
  · exact h.row i y (by omega) hy
end Go.Proofs.Ythpcpminikmcbaa.og
