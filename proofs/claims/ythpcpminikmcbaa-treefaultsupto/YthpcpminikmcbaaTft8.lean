import Derived.Test.YthpcpminikmcbaaTft7
import Derived.Test.YthpcpminikmcbaaTft5
import Derived.Test.YthpcpminikmcbaaTft3
import Derived.RangeFuncNested
import Derived.RangeFuncBound
import Derived.RangeFuncCalls
import Derived.RangeFuncLeaves
import Derived.Shelf.Abstract
import Derived.Shelf.RegionOpen
import Derived.OwnWalkIn
import Derived.TacticsInMore
import Derived.LoopNIn
import Derived.LoopIn
import Derived.Lib.MinMax
import Derived.Test.YthpcpminikmcbaaTft4
namespace Go.Proofs.Ythpcpminikmcbaa.og
open Go.ChangeShapes Go.WideShapes Go.ChangeAt Go.RowKit
open vl hiding cB cFl cS cF cI cK cIt
set_option linter.unusedVariables false
set_option linter.unusedSimpArgs false
/-- what lies there while a value is turned: w0 the world at the call, B2 the block of w, p and q the rows of its items and members; k items and m members are done -/
structure TnS (Q : Nat → Prop) (w0 : World) (B2 p q : Nat) (its : Vls) (fls : Fls) (nI nf : Nat) (cs ds : List Value) (k m : Nat) (w : World) : Prop where
  c0 : w.rangeAt w0.heap.size 0 cs
  c2 : w.rangeAt B2 0 ds
  th : w.there (w0.heap.size + 1) 0 8
  thI : w.there p 0 (nI * 8)
  thF : w.there q 0 (nf * 9)
  dI : ∀ (i : Nat) (v : Vl), i < k → its.list[i]? = some v → ∃ us, Row8 w p (i * 8) us ∧ AvC Q w (turnV v) us
  rI : ∀ (i : Nat) (v : Vl), k ≤ i → its.list[i]? = some v → ∃ us, Row8 w p (i * 8) us ∧ AvC Q w v us
  dF : ∀ (i : Nat) (x : ByteArray × Vl), i < m → (rvF fls)[i]? = some x → ∃ us, w.cell? ⟨q, i * 9, none⟩ = some (.string x.1) ∧ x.1.size ≤ maxLen ∧ Row8 w q (i * 9 + 1) us ∧ AvC Q w x.2 us
  bel : Below w0.heap.size w0 w
  siz : B2 < w.heap.size
theorem TnS.below {Q : Nat → Prop} {w0 : World} {B2 p q : Nat} {its : Vls} {fls : Fls} {nI nf : Nat} {cs ds : List Value} {k m : Nat} {w w' : World} (h : TnS Q w0 B2 p q its fls nI nf cs ds k m w) (hB : w0.heap.size + 1 < B2) (hp : nI = 0 ∨ p < B2) (hq : nf = 0 ∨ q < B2) (hb : Below w.heap.size w w') : TnS Q w0 B2 p q its fls nI nf cs ds k m w' where
  c0 := fun j u hu => (hb.cell (p := ⟨w0.heap.size, 0 + j, none⟩) (by have := h.siz; show w0.heap.size < _; omega)).trans (h.c0 j u hu)
  c2 := fun j u hu => (hb.cell (p := ⟨B2, 0 + j, none⟩) h.siz).trans (h.c2 j u hu)
  th := there_below h.th hb (by have := h.siz; omega)
  thI := by
    rcases hp with hp | hp
    · subst hp; intro j hj; omega
    · exact there_below h.thI hb (by have := h.siz; omega)
  thF := by
    rcases hq with hq | hq
    · subst hq; intro j hj; omega
    · exact there_below h.thF hb (by have := h.siz; omega)
  dI := fun i v hi hv => by
    obtain ⟨us, r1, r2⟩ := h.dI i v hi hv
    exact ⟨us, Row8.below r1 hb, r2.below hb⟩
  rI := fun i v hi hv => by
    obtain ⟨us, r1, r2⟩ := h.rI i v hi hv
    exact ⟨us, Row8.below r1 hb, r2.below hb⟩
  dF := fun i x hi hx => by
    obtain ⟨us, r0, rz, r1, r2⟩ := h.dF i x hi hx
    exact ⟨us, (hb.cell (World.block_lt_of_cell? _ _ r0)).trans r0, rz, Row8.below r1 hb, r2.below hb⟩
  bel := h.bel.trans (hb.mono h.bel.size)
  siz := Nat.lt_of_lt_of_le h.siz hb.size
/-- the next item is written -/
theorem TnS.putI {Q : Nat → Prop} {w0 : World} {B2 p q : Nat} {its : Vls} {fls : Fls} {nI nf : Nat} {cs ds : List Value} {k m : Nat} {w : World} {v : Vl} {us : List Value} (h : TnS Q w0 B2 p q its fls nI nf cs ds k m w) (hQ : Q p) (hp1 : w0.heap.size + 1 < p) (hp2 : p ≠ B2) (hpq : p ≠ q) (hk : k < nI) (hv : its.list[k]? = some v) (hu : AvC Q w (turnV v) us) : TnS Q w0 B2 p q its fls nI nf cs ds (k + 1) m (w.setCells p (k * 8) us) := by
  have u8 := hu.cells
  have out : ∀ b j, b ≠ p → (w.setCells p (k * 8) us).cell? ⟨b, j, none⟩ = w.cell? ⟨b, j, none⟩ := fun b j hb => World.cell?_setCells_out _ _ _ _ _ (fun e _ => absurd (show b = p from e) hb)
  have av : ∀ x xs, AvC Q w x xs → AvC Q (w.setCells p (k * 8) us) x xs := fun x xs h => AvC.agree (fun _ _ h => h) (fun b j _ hn => out b j (fun e => hn (e ▸ hQ))) x xs h
  have oth : ∀ i xs, i ≠ k → xs.length = 8 → Row8 w p (i * 8) xs → Row8 (w.setCells p (k * 8) us) p (i * 8) xs := fun i xs hi h8 hr j u hj => by
    have := (List.getElem?_eq_some_iff.1 hj).1
    rw [World.cell?_setCells_out _ _ _ _ _ (fun _ _ => by show i * 8 + j < k * 8 ∨ k * 8 + us.length ≤ i * 8 + j; omega)]
    exact hr j u hj
  exact {
    c0 := fun j u hu => (out _ _ (by omega)).trans (h.c0 j u hu)
    c2 := fun j u hu => (out _ _ (by omega)).trans (h.c2 j u hu)
    th := World.there_setCells h.th _ _ _
    thI := World.there_setCells h.thI _ _ _
    thF := World.there_setCells h.thF _ _ _
    dI := fun i x hi hx => by
      by_cases hik : i = k
      · subst hik
        obtain rfl : v = x := Option.some.inj (hv.symm.trans hx)
        exact ⟨us, World.rangeAt_setCells_same w _ _ us (by rw [u8]; exact there_sub h.thI (Nat.zero_le _) (by omega)), av _ _ hu⟩
      · obtain ⟨xs, r1, r2⟩ := h.dI i x (by omega) hx
        exact ⟨xs, oth i xs hik r2.cells r1, av _ _ r2⟩
    rI := fun i x hi hx => by
      obtain ⟨xs, r1, r2⟩ := h.rI i x (by omega) hx
      exact ⟨xs, oth i xs (by omega) r2.cells r1, av _ _ r2⟩
    dF := fun i x hi hx => by
      obtain ⟨xs, r0, rz, r1, r2⟩ := h.dF i x hi hx
      exact ⟨xs, (out _ _ (fun e => hpq e.symm)).trans r0, rz, fun j u hj => (out _ _ (fun e => hpq e.symm)).trans (r1 j u hj), av _ _ r2⟩
    bel := below_setCells _ _ _ _ h.bel (by omega)
    siz := by rw [size_setCells]; exact h.siz }
/-- the next member is written -/
theorem TnS.putF {Q : Nat → Prop} {w0 : World} {B2 p q : Nat} {its : Vls} {fls : Fls} {nI nf : Nat} {cs ds : List Value} {k m : Nat} {w : World} {nm : ByteArray} {v : Vl} {us : List Value} (h : TnS Q w0 B2 p q its fls nI nf cs ds k m w) (hQ : Q q) (hp1 : w0.heap.size + 1 < q) (hp2 : q ≠ B2) (hpq : p ≠ q) (hk : m < nf) (hv : (rvF fls)[m]? = some (nm, v)) (hz : nm.size ≤ maxLen) (hu : AvC Q w v us) : TnS Q w0 B2 p q its fls nI nf cs ds k (m + 1) (w.setCells q (m * 9) (.string nm :: us)) := by
  have u8 := hu.cells
  have out : ∀ b j, b ≠ q → (w.setCells q (m * 9) (.string nm :: us)).cell? ⟨b, j, none⟩ = w.cell? ⟨b, j, none⟩ := fun b j hb => World.cell?_setCells_out _ _ _ _ _ (fun e _ => absurd (show b = q from e) hb)
  have av : ∀ x xs, AvC Q w x xs → AvC Q (w.setCells q (m * 9) (.string nm :: us)) x xs := fun x xs h => AvC.agree (fun _ _ h => h) (fun b j _ hn => out b j (fun e => hn (e ▸ hQ))) x xs h
  have hrow : (w.setCells q (m * 9) (.string nm :: us)).rangeAt q (m * 9) (.string nm :: us) := World.rangeAt_setCells_same w _ _ _ (by rw [List.length_cons, u8]; exact there_sub h.thF (Nat.zero_le _) (by omega))
  exact {
    c0 := fun j u hu => (out _ _ (by omega)).trans (h.c0 j u hu)
    c2 := fun j u hu => (out _ _ (by omega)).trans (h.c2 j u hu)
    th := World.there_setCells h.th _ _ _
    thI := World.there_setCells h.thI _ _ _
    thF := World.there_setCells h.thF _ _ _
    dI := fun i x hi hx => by
      obtain ⟨xs, r1, r2⟩ := h.dI i x hi hx
      exact ⟨xs, fun j u hj => (out _ _ hpq).trans (r1 j u hj), av _ _ r2⟩
    rI := fun i x hi hx => by
      obtain ⟨xs, r1, r2⟩ := h.rI i x hi hx
      exact ⟨xs, fun j u hj => (out _ _ hpq).trans (r1 j u hj), av _ _ r2⟩
    dF := fun i x hi hx => by
      by_cases hik : i = m
      · subst hik
        obtain rfl : (nm, v) = x := Option.some.inj (hv.symm.trans hx)
        exact ⟨us, hrow 0 _ rfl, hz, fun j u hj => by have := hrow (j + 1) u (by simpa using hj); rwa [show i * 9 + (j + 1) = i * 9 + 1 + j by omega] at this, av _ _ hu⟩
      · obtain ⟨xs, r0, rz, r1, r2⟩ := h.dF i x (by omega) hx
        have x8 := r2.cells
        refine ⟨xs, ?_, rz, fun j u hj => ?_, av _ _ r2⟩
        · rw [World.cell?_setCells_out _ _ _ _ _ (fun _ _ => by show i * 9 < m * 9 ∨ m * 9 + (Value.string nm :: us).length ≤ i * 9; rw [List.length_cons]; omega)]
          exact r0
        · have := (List.getElem?_eq_some_iff.1 hj).1
          rw [World.cell?_setCells_out _ _ _ _ _ (fun _ _ => by show i * 9 + 1 + j < m * 9 ∨ m * 9 + (Value.string nm :: us).length ≤ i * 9 + 1 + j; rw [List.length_cons]; omega)]
          exact r1 j u hj
    bel := below_setCells _ _ _ _ h.bel (by omega)
    siz := by rw [size_setCells]; exact h.siz }
end Go.Proofs.Ythpcpminikmcbaa.og
namespace Go.Proofs.Ythpcpminikmcbaa.og
open Go.ChangeShapes Go.WideShapes Go.ChangeAt Go.RowKit
open vl hiding cB cFl cS cF cI cK cIt
set_option linter.unusedVariables false
set_option linter.unusedSimpArgs false
set_option maxHeartbeats 8000000 in
set_option maxRecDepth 6000 in
theorem turned_ok : ∀ v : Vl, Small v → FnB 28 (fun v v' => v' = turnV v) v := by
  refine Vl.all ?_
  intro kd bb ni f tx ty its fls ihI ihF hsm Q cs w hQ hv
  have hcop := rcopy_ok _ hsm cs
  have hvr := AvC.read _ cs hv
  unfold Small at hsm
  obtain ⟨hl1, hl2, -, hsI, hsF⟩ := hsm
  unfold AvC at hv
  obtain ⟨ai, nI, ci, af, nf, cf, rfl, hI, hF, hni, hnf, hai, haf, hk1, hk2, hk3, hk4, hci, hcf⟩ := hv
  have eI := VlsAt.len its _ _ (AvI.read its _ _ hI)
  have eF := FlsAt.len fls _ _ (AvF.read fls _ _ hF)
  obtain ⟨W, eW⟩ : ∃ W, W = ((w.alloc (.cells #[.int .i64 kd, .bool bb, .int .i64 ni, .float .f64 f, .string tx, .string ty, .slice ai nI ci, .slice af nf cf] 27)).alloc (.cells #[.int .i64 0, .bool false, .int .i64 0, .float .f64 0, .string { data := #[] }, .string { data := #[] }, .slice none 0 0, .slice none 0 0] 27)) := ⟨_, rfl⟩
  have bW : Below w.heap.size w W := by rw [eW]; exact ((Below.refl _ _).alloc (Nat.le_refl _) _).alloc (by simp) _
  have hsz : w.heap.size + 1 < W.heap.size := by rw [eW]; simp
  have r0 : W.rangeAt w.heap.size 0 [.int .i64 kd, .bool bb, .int .i64 ni, .float .f64 f, .string tx, .string ty, .slice ai nI ci, .slice af nf cf] := fun j x hx => by
    rw [eW, Nat.zero_add, World.cell?_alloc_past _ _ _ (by simp), World.cell?_alloc_at _ _ _ _ rfl]; simpa using hx
  have hth : W.there (w.heap.size + 1) 0 8 := by
    rw [eW]
    have h := there_new (w := w.alloc (.cells #[.int .i64 kd, .bool bb, .int .i64 ni, .float .f64 f, .string tx, .string ty, .slice ai nI ci, .slice af nf cf] 27)) (Z := #[.int .i64 0, .bool false, .int .i64 0, .float .f64 0, .string { data := #[] }, .string { data := #[] }, .slice none 0 0, .slice none 0 0]) (t := 27) (n := 8) rfl
    simpa using h
  have EW := hide eW
  have HCOP := hide (hcop W (VlC.below bW _ _ hvr))
  have EI := hide eI
  have EF := hide eF
  have ii : (Try.prog.info? 27).map (·.size) = some [Value.int IntKind.i64 kd, Value.bool bb, Value.int IntKind.i64 ni, Value.float FloatKind.f64 f, Value.string tx, Value.string ty, Value.slice ai nI ci, Value.slice af nf cf].length := infoV
  have RI := hide (And.intro r0 ii)
  clear eW hcop eI eF r0 ii hvr
  go_enter Try.func28, Try.ntmps28
  go_wp2_with (first
    | (rw [← unhide EW]; refine wpList_load_mid (by rfl) 27 _ (by rfl) w.heap.size 0 (by rfl) [.int .i64 kd, .bool bb, .int .i64 ni, .float .f64 f, .string tx, .string ty, .slice ai nI ci, .slice af nf cf] _ (unhide RI).1 Try.underlying27 (by rfl) (unhide RI).2 ?_))
  clear EW
  refine (unhide HCOP).mono ?_
  clear HCOP
  rintro e w1 ⟨ds, F, rfl, hO, hnd, hF1, b1, z1⟩
  have hOr := OwC.read _ _ _ hO
  unfold OwC at hO
  obtain ⟨bi, mI, di, bf, mf, df, Fi, Ff, rfl, o1, o2, s1, s2, s3, s4, s5, s6, s7, s8, s9, s10, rfl⟩ := hO
  unfold VlC at hOr
  obtain ⟨bi', mI', di', bf', mf', df', e, hOI, hOF, -⟩ := hOr
  simp only [List.cons.injEq, Value.slice.injEq, true_and, and_true] at e
  obtain ⟨⟨rfl, rfl, rfl⟩, rfl, rfl, rfl⟩ := e
  obtain rfl : nI = mI := (unhide EI).symm.trans (VlsAt.len its _ _ hOI)
  obtain rfl : nf = mf := (unhide EF).symm.trans (FlsAt.len fls _ _ hOF)
  clear hOI hOF
  have hw1 := b1.size
  obtain ⟨X, eX⟩ : ∃ X, X = w1.alloc (.cells #[.int .i64 kd, .bool bb, .int .i64 ni, .float .f64 f, .string tx, .string ty, .slice bi nI di, .slice bf nf df] 27) := ⟨_, rfl⟩
  have bX : Below w1.heap.size w1 X := by rw [eX]; exact (Below.refl _ _).alloc (Nat.le_refl _) _
  have sX : X.heap.size = w1.heap.size + 1 := by rw [eX]; simp
  have hX2 : X.rangeAt w1.heap.size 0 [.int .i64 kd, .bool bb, .int .i64 ni, .float .f64 f, .string tx, .string ty, .slice bi nI di, .slice bf nf df] := fun j x hx => by
    rw [eX, Nat.zero_add, World.cell?_alloc_at _ _ _ _ rfl]; simpa using hx
  have hX0 : X.rangeAt w.heap.size 0 [.int .i64 kd, .bool bb, .int .i64 ni, .float .f64 f, .string tx, .string ty, .slice ai nI ci, .slice af nf cf] := Row8.below (Row8.below (unhide RI).1 b1) bX
  have hXt : X.there (w.heap.size + 1) 0 8 := there_below (there_below hth b1 (by omega)) bX (by omega)
  -- the two rows
  obtain ⟨p, q, hp, hq, ⟨hpq, hpw, hqw⟩, hp1, hq1, hpB, hqB, hav⟩ : ∃ p q : Nat, (nI = 0 ∧ bi = none ∨ bi = some ⟨p, 0, none⟩) ∧ (nf = 0 ∧ bf = none ∨ bf = some ⟨q, 0, none⟩) ∧ (p ≠ q ∧ w.heap.size ≤ p ∧ w.heap.size ≤ q) ∧ (nI = 0 ∨ w.heap.size + 1 < p) ∧ (nf = 0 ∨ w.heap.size + 1 < q) ∧ p < w1.heap.size ∧ q < w1.heap.size ∧
      X.there p 0 (nI * 8) ∧ X.there q 0 (nf * 9) ∧ ∀ (i : Nat) (v : Vl), its.list[i]? = some v → ∃ us, Row8 X p (i * 8) us ∧ AvC (fun b => Q b ∨ b = w.heap.size ∨ b = w.heap.size + 1 ∨ b = w1.heap.size ∨ b = p ∨ b = q) X v us := by
    have hq0 : ∀ b, Q b → b < w.heap.size := hQ
    rcases o1 with ⟨rfl, rfl, rfl, rfl⟩ | ⟨p, G, rfl, rfl, o1⟩
    · rcases o2 with ⟨rfl, rfl, rfl, rfl⟩ | ⟨q, G', rfl, rfl, o2⟩
      · exact ⟨w.heap.size + 1, w.heap.size, .inl ⟨rfl, rfl⟩, .inl ⟨rfl, rfl⟩, ⟨by omega, by omega, by omega⟩, .inl rfl, .inl rfl, by omega, by omega, fun j hj => by omega, fun j hj => by omega, fun i v hv => by simp [Vls.list] at hv⟩
      · have hqq := hF1 q (by simp)
        exact ⟨w.heap.size + 1, q, .inl ⟨rfl, rfl⟩, .inr rfl, ⟨by omega, by omega, by omega⟩, .inl rfl, .inr (by omega), by omega, by omega, fun j hj => by omega, there_below (OwfIn.there (fun j => z1 q (by simp) j) fls 0 nf G' o2) bX hqq.2, fun i v hv => by simp [Vls.list] at hv⟩
    · have hpp := hF1 p (by simp)
      have hn3 := (List.nodup_append.1 hnd).2.2
      have hGp : ∀ b ∈ G, b ≠ p := fun b hb e => (List.nodup_cons.1 (List.nodup_append.1 hnd).1).1 (e ▸ hb)
      have hGr : ∀ b ∈ G, W.heap.size ≤ b ∧ b < w1.heap.size := fun b hb => hF1 b (by simp [hb])
      rcases o2 with ⟨rfl, rfl, rfl, rfl⟩ | ⟨q, G', rfl, rfl, o2⟩
      · refine ⟨p, w.heap.size, .inr rfl, .inl ⟨rfl, rfl⟩, ⟨by omega, by omega, by omega⟩, .inr (by omega), .inl rfl, by omega, by omega, there_below (OwsIn.there (fun j => z1 p (by simp) j) its 0 nI G o1) bX hpp.2, fun j hj => by omega, fun i v hv => ?_⟩
        obtain ⟨us, g1, g2⟩ := OwsIn.row (Q := fun b => Q b ∨ b = w.heap.size ∨ b = w.heap.size + 1 ∨ b = w1.heap.size ∨ b = p ∨ b = w.heap.size) its 0 nI G (fun b hb hn => by
          have h1 := hGr b hb
          have h2 := hGp b hb
          rcases hn with h | h | h | h | h | h
          · have := hq0 b h; omega
          all_goals omega) o1 i v hv
        exact ⟨us, by rw [Nat.zero_add] at g1; exact Row8.below g1 bX, g2.below bX⟩
      · have hqq := hF1 q (by simp)
        have hne : p ≠ q := hn3 p (List.mem_cons_self ..) q (List.mem_cons_self ..)
        have hGq : ∀ b ∈ G, b ≠ q := fun b hb => hn3 b (List.mem_cons_of_mem _ hb) q (List.mem_cons_self ..)
        refine ⟨p, q, .inr rfl, .inr rfl, ⟨hne, by omega, by omega⟩, .inr (by omega), .inr (by omega), by omega, by omega, there_below (OwsIn.there (fun j => z1 p (by simp) j) its 0 nI G o1) bX hpp.2, there_below (OwfIn.there (fun j => z1 q (by simp) j) fls 0 nf G' o2) bX hqq.2, fun i v hv => ?_⟩
        obtain ⟨us, g1, g2⟩ := OwsIn.row (Q := fun b => Q b ∨ b = w.heap.size ∨ b = w.heap.size + 1 ∨ b = w1.heap.size ∨ b = p ∨ b = q) its 0 nI G (fun b hb hn => by
          have h1 := hGr b hb
          have h2 := hGp b hb
          have h3 := hGq b hb
          rcases hn with h | h | h | h | h | h
          · have := hq0 b h; omega
          all_goals omega) o1 i v hv
        exact ⟨us, by rw [Nat.zero_add] at g1; exact Row8.below g1 bX, g2.below bX⟩
  obtain ⟨htI, htF, hav⟩ := hav
  have T0 : TnS (fun b => Q b ∨ b = w.heap.size ∨ b = w.heap.size + 1 ∨ b = w1.heap.size ∨ b = p ∨ b = q) w w1.heap.size p q its fls nI nf [.int .i64 kd, .bool bb, .int .i64 ni, .float .f64 f, .string tx, .string ty, .slice ai nI ci, .slice af nf cf] [.int .i64 kd, .bool bb, .int .i64 ni, .float .f64 f, .string tx, .string ty, .slice bi nI di, .slice bf nf df] 0 0 X := {
    c0 := hX0
    c2 := hX2
    th := hXt
    thI := htI
    thF := htF
    dI := fun i v hi => absurd hi (Nat.not_lt_zero _)
    rI := fun i v _ hv => hav i v hv
    dF := fun i v hi => absurd hi (Nat.not_lt_zero _)
    bel := (bW.trans (b1.mono bW.size)).trans (bX.mono (by have := bW.size; omega))
    siz := by omega }
  have hpL : nI = 0 ∨ p < w1.heap.size := .inr hpB
  have hqL : nf = 0 ∨ q < w1.heap.size := .inr hqB
  have hB2 : w.heap.size + 1 < w1.heap.size := by omega
  have HT0 := hide T0
  have EX := hide eX
  have x6 : X.cell? ⟨w1.heap.size, 6, none⟩ = some (.slice bi nI di) := hX2 6 _ rfl
  have X6 := hide x6
  have hsf := storeF
  have bnI : nI ≤ 9223372036854775807 := by have := unhide EI; omega
  have bnf : nf ≤ 9223372036854775807 := by have := unhide EF; omega
  clear T0 eX hX0 hX2 hXt htI htF hav o1 o2 hnd hF1 z1 x6
  go_wp2_with fail
  rw [← unhide EX]
  clear EX hsf X6
  have hQ1 : ∀ (wr : World), Below w.heap.size w wr → w1.heap.size < wr.heap.size → ∀ b, (Q b ∨ b = w.heap.size ∨ b = w.heap.size + 1 ∨ b = w1.heap.size ∨ b = p ∨ b = q) → b < wr.heap.size := fun wr hb hl b h => by
    have := hb.size
    rcases h with h | h | h | h | h | h
    · have := hQ b h; omega
    all_goals omega
  go_loopw [12] (fun vi wr => ∃ k : Nat, k ≤ nI ∧ vi = .int .i64 k ∧ vl.Hid (TnS (fun b => Q b ∨ b = w.heap.size ∨ b = w.heap.size + 1 ∨ b = w1.heap.size ∨ b = p ∨ b = q) w w1.heap.size p q its fls nI nf [.int .i64 kd, .bool bb, .int .i64 ni, .float .f64 f, .string tx, .string ty, .slice ai nI ci, .slice af nf cf] [.int .i64 kd, .bool bb, .int .i64 ni, .float .f64 f, .string tx, .string ty, .slice bi nI di, .slice bf nf df] k 0 wr)) (fun vi _ => nI - (intOf vi).toNat)
  case atStart => exact ⟨0, Nat.zero_le _, rfl, HT0⟩
  case round =>
    clear HT0
    obtain ⟨k, hk, rfl, HT⟩ := hrel
    have hT := unhide HT
    by_cases hlt : k < nI
    · have ki : (k : Int) < (nI : Int) := by omega
      obtain rfl : bi = some ⟨p, 0, none⟩ := by
        rcases hp with ⟨h, -⟩ | h
        · omega
        · exact h
      have hke : k < its.list.length := by rw [unhide EI]; exact hlt
      have hgv : its.list[k]? = some its.list[k] := List.getElem?_eq_getElem hke
      obtain ⟨us, hrow, hus⟩ := hT.rI k _ (Nat.le_refl _) hgv
      have IH := hide (ihI its.list[k] (List.mem_of_getElem? hgv) (hsI.all _ (List.mem_of_getElem? hgv)))
      have HGV := hide hgv
      generalize its.list[k] = v at *
      have iu : (Try.prog.info? 27).map (·.size) = some us.length := by rw [hus.cells]; exact infoV
      have y6 : wr.cell? ⟨w1.heap.size, 6, none⟩ = some (.slice (some ⟨p, 0, none⟩) nI di) := hT.c2 6 _ rfl
      have HU := hide (And.intro hrow (And.intro hus iu))
      clear hgv hrow hus iu hT
      go_wp2_with fail
      have hS0 : ({ wr with drawn := wr.drawn + 1 } : World).cell? ⟨w1.heap.size, 6, none⟩ = some (.slice (some ⟨p, 0, none⟩) nI di) := y6
      clear y6
      refine wp_region_noPanic ?_
      refine wp_region_held (S := fun w' => w'.cell? ⟨w1.heap.size, 6, none⟩ = some (.slice (some ⟨p, 0, none⟩) nI di)) mixed ?_
      refine wpAnyH_take (i := 0) (v := ?v1) rfl (by kernel_rfl) (by kernel_rfl) (by kernel_rfl) (fun _ _ _ h => h) (Or.inl ⟨by rfl, ?hy1⟩) hS0 ?_
      case hy1 => (intro w' hw';  go_simp; try with_reducible rfl)
      simp only [List.getElem_toArray, List.getElem_cons_zero, List.getElem_cons_succ, Act.put, List.setIfInBounds_toArray, List.set_cons_zero, List.set_cons_succ]
      refine wpAnyH_take (i := 1) (v := ?v2) rfl (by kernel_rfl) (by kernel_rfl) (by kernel_rfl) (fun _ _ _ h => h) (Or.inl ⟨by rfl, ?hy2⟩) hS0 ?_
      case hy2 => (intro w' hw';  go_simp; try with_reducible rfl)
      simp only [List.getElem_toArray, List.getElem_cons_zero, List.getElem_cons_succ, Act.put, List.setIfInBounds_toArray, List.set_cons_zero, List.set_cons_succ]
      refine wpAnyH_take (i := 2) (v := ?v3) rfl (by kernel_rfl) (by kernel_rfl) (by kernel_rfl) (fun _ _ _ h => h) (Or.inl ⟨by rfl, ?hy3⟩) hS0 ?_
      case hy3 => (intro w' hw';  go_simp; try with_reducible rfl)
      simp only [List.getElem_toArray, List.getElem_cons_zero, List.getElem_cons_succ, Act.put, List.setIfInBounds_toArray, List.set_cons_zero, List.set_cons_succ]
      refine wpAnyH_take (i := 3) (v := ?v4) rfl (by kernel_rfl) (by kernel_rfl) (by kernel_rfl) (fun _ _ _ h => h) (Or.inl ⟨by rfl, ?hy4⟩) hS0 ?_
      case hy4 => (intro w' hw';  go_simp; try with_reducible rfl)
      simp only [List.getElem_toArray, List.getElem_cons_zero, List.getElem_cons_succ, Act.put, List.setIfInBounds_toArray, List.set_cons_zero, List.set_cons_succ]
      refine wpAnyH_take (i := 4) (v := ?v5) rfl (by kernel_rfl) (by kernel_rfl) (by kernel_rfl) (fun _ _ _ h => h) (Or.inl ⟨by rfl, ?hy5⟩) hS0 ?_
      case hy5 => (intro w' hw';  go_simp; try with_reducible rfl)
      simp only [List.getElem_toArray, List.getElem_cons_zero, List.getElem_cons_succ, Act.put, List.setIfInBounds_toArray, List.set_cons_zero, List.set_cons_succ]
      refine wpAnyH_take (i := 5) (v := ?v6) rfl (by kernel_rfl) (by kernel_rfl) (by kernel_rfl) (fun _ _ _ h => h) (Or.inl ⟨by rfl, ?hy6⟩) hS0 ?_
      case hy6 => (intro w' hw';  go_simp; try with_reducible rfl)
      simp only [List.getElem_toArray, List.getElem_cons_zero, List.getElem_cons_succ, Act.put, List.setIfInBounds_toArray, List.set_cons_zero, List.set_cons_succ]
      refine wpAnyH_take (i := 6) (v := ?v7) rfl (by kernel_rfl) (by kernel_rfl) (by kernel_rfl) (fun _ _ _ h => h) (Or.inl ⟨by rfl, ?hy7⟩) hS0 ?_
      case hy7 => (intro w' hw';  go_simp; try with_reducible rfl)
      simp only [List.getElem_toArray, List.getElem_cons_zero, List.getElem_cons_succ, Act.put, List.setIfInBounds_toArray, List.set_cons_zero, List.set_cons_succ]
      refine rgn.one (i := 7) _ rfl (by kernel_rfl) (by rfl) ?_
      simp only [List.getElem_toArray, List.getElem_cons_zero, List.getElem_cons_succ, Act.put, List.setIfInBounds_toArray, List.set_cons_zero, List.set_cons_succ]
      refine wp_load_mid 27 _ (by rfl) p (k * 8) (by rfl) us _ (show ({ wr with drawn := wr.drawn + 1 } : World).rangeAt p (k * 8) us from (unhide HU).1) Try.underlying27 (by rfl) (unhide HU).2.2 ?_
      refine ⟨hS0, ?_⟩
      simp only [List.getElem_toArray, List.getElem_cons_zero, List.getElem_cons_succ, Act.put, List.setIfInBounds_toArray, List.set_cons_zero, List.set_cons_succ]
      refine rgn.one (i := 8) _ rfl (by kernel_rfl) (by rfl) ?_
      simp only [List.getElem_toArray, List.getElem_cons_zero, List.getElem_cons_succ, Act.put, List.setIfInBounds_toArray, List.set_cons_zero, List.set_cons_succ]
      go_wp2_with fail
      have dr : Below wr.heap.size wr { wr with drawn := wr.drawn + 1 } := (Below.refl _ _).drew
      refine ((unhide IH) _ us _ (fun b hb => by have := hQ1 wr (unhide HT).bel (unhide HT).siz b hb; exact this) (AvC.below (unhide HU).2.1 dr)).mono ?_
      rintro e w3 ⟨v', es, rfl, rfl, hO3, b3⟩
      have b4 : Below wr.heap.size wr w3 := dr.trans b3
      have hT3 := (unhide HT).below hB2 hpL hqL b4
      have hS0 : w3.cell? ⟨w1.heap.size, 6, none⟩ = some (.slice (some ⟨p, 0, none⟩) nI di) := hT3.c2 6 _ rfl
      have e8 := hO3.cells
      have e1 := (AvC.read _ _ hO3).one
      have ht3 : w3.there p (k * 8) es.toArray.size := there_sub hT3.thI (Nat.zero_le _) (by simp [e8]; omega)
      have ie : (Try.prog.info? 27).map (·.size) = some es.toArray.size := by simp [e8, infoV]
      have hTn := hide (hT3.putI (.inr (.inr (.inr (.inr (.inl rfl))))) (by omega) (by omega) hpq hlt (unhide HGV) hO3)
      refine ⟨hS0, ?_⟩
      refine wpAnyH_take (i := 9) (v := ?v8) rfl (by kernel_rfl) (by kernel_rfl) (by kernel_rfl) (fun _ _ _ h => h) (Or.inl ⟨by rfl, ?hy8⟩) hS0 ?_
      case hy8 => (intro w' hw';  go_simp; try with_reducible rfl)
      simp only [List.getElem_toArray, List.getElem_cons_zero, List.getElem_cons_succ, Act.put, List.setIfInBounds_toArray, List.set_cons_zero, List.set_cons_succ]
      refine rgn.one (i := 10) _ rfl (by kernel_rfl) (by rfl) ?_
      simp only [List.getElem_toArray, List.getElem_cons_zero, List.getElem_cons_succ, Act.put, List.setIfInBounds_toArray, List.set_cons_zero, List.set_cons_succ]
      refine wp_store_mid 27 _ _ (by rfl) p (k * 8) es.toArray (by rfl) (by rfl) ht3 ie e1 ?_
      refine ⟨(unhide hTn).c2 6 _ rfl, ?_⟩
      refine wpAnyH_done (by kernel_rfl) ?_ _
      refine NoPanic.normal ?_
      try simp only [List.getElem_toArray, List.getElem_cons_zero, List.getElem_cons_succ, Act.put, List.setIfInBounds_toArray, List.set_cons_zero, List.set_cons_succ]
      obtain ⟨w5, e5⟩ : ∃ w5, w5 = w3.setCells p (k * 8) es := ⟨_, rfl⟩
      rw [← e5] at hTn
      rw [show w3.setCells p (k * 8) es.toArray.toList = w5 from e5.symm]
      clear e5 ht3 ie e1 e8 hS0 hT3 HU IH
      go_wp2
      go_roundw
      case rel => exact ⟨k + 1, by omega, by go_num, hTn⟩
      case measure => simp [intOf]; omega
    · obtain rfl : k = nI := by omega
      have y7 : wr.cell? ⟨w1.heap.size, 7, none⟩ = some (.slice bf nf df) := hT.c2 7 _ rfl
      clear hT
      go_wp2_with fail
      go_loopw [6] (fun vi wr => ∃ m : Nat, m ≤ nf ∧ vi = .int .i64 m ∧ vl.Hid (TnS (fun b => Q b ∨ b = w.heap.size ∨ b = w.heap.size + 1 ∨ b = w1.heap.size ∨ b = p ∨ b = q) w w1.heap.size p q its fls k nf [.int .i64 kd, .bool bb, .int .i64 ni, .float .f64 f, .string tx, .string ty, .slice ai k ci, .slice af nf cf] [.int .i64 kd, .bool bb, .int .i64 ni, .float .f64 f, .string tx, .string ty, .slice bi k di, .slice bf nf df] k m wr)) (fun vi _ => nf - (intOf vi).toNat)
      case atStart => exact ⟨0, Nat.zero_le _, rfl, HT⟩
      case round =>
        clear HT y7
        obtain ⟨m, hm, rfl, HT⟩ := hrel
        have hT := unhide HT
        by_cases hlt2 : m < nf
        · have mi : (m : Int) < (nf : Int) := by omega
          obtain rfl : bf = some ⟨q, 0, none⟩ := by
            rcases hq with ⟨h, -⟩ | h
            · omega
            · exact h
          obtain ⟨j, hj⟩ : ∃ j, nf = m + 1 + j := ⟨nf - m - 1, by omega⟩
          obtain ⟨b, off, nm, v, us, rfl, hgv, -, hn0, hnz, hrow, hus⟩ := AvF.get fls _ _ hF j (by omega)
          have IH := hide (ihF (nm, v) (List.mem_of_getElem? hgv) (hsF.all _ (List.mem_of_getElem? hgv)))
          have HGV := hide (rvF_get (k := m) hgv (by rw [unhide EF]; omega))
          have iu : (Try.prog.info? 27).map (·.size) = some us.length := by rw [hus.cells]; exact infoV
          have y7 : wr.cell? ⟨w1.heap.size, 7, none⟩ = some (.slice (some ⟨q, 0, none⟩) nf df) := hT.c2 7 _ rfl
          have z7 : wr.cell? ⟨w.heap.size, 7, none⟩ = some (.slice (some ⟨b, off, none⟩) nf cf) := hT.c0 7 _ rfl
          have hbl := World.block_lt_of_cell? w _ hn0
          have HU := hide (And.intro hrow (And.intro hus iu))
          have hbel := hT.bel
          obtain ⟨a0, ha0⟩ : ∃ a0 : Nat, a0 = m + j := ⟨_, rfl⟩
          have we1 : IntKind.i64.wrap ((nf : Int) - 1) = (a0 : Int) := by
            rw [show (nf : Int) - 1 = (a0 : Int) by omega]; simp [IntKind.wrap, IntKind.bits, IntKind.signed]; omega
          have we2 : IntKind.i64.wrap ((a0 : Int) - (m : Int)) = (j : Int) := by
            rw [show (a0 : Int) - (m : Int) = (j : Int) by omega]; simp [IntKind.wrap, IntKind.bits, IntKind.signed]; omega
          have j0 : (0 : Int) ≤ (j : Int) := by omega
          clear ha0
          have lj : (j : Int) < (nf : Int) := by omega
          have HJ := hide hj
          clear hj hgv hrow hus iu hT
          go_wp2_with fail
          have hS0 : Below w.heap.size w { wr with drawn := wr.drawn + 1 } ∧ ({ wr with drawn := wr.drawn + 1 } : World).cell? ⟨w1.heap.size, 7, none⟩ = some (.slice (some ⟨q, 0, none⟩) nf df) ∧ ({ wr with drawn := wr.drawn + 1 } : World).cell? ⟨w.heap.size, 7, none⟩ = some (.slice (some ⟨b, off, none⟩) nf cf) := ⟨hbel.drew, y7, z7⟩
          clear y7 z7 hbel
          refine wp_region_noPanic ?_
          refine wp_region_held (S := fun w' => Below w.heap.size w w' ∧ w'.cell? ⟨w1.heap.size, 7, none⟩ = some (.slice (some ⟨q, 0, none⟩) nf df) ∧ w'.cell? ⟨w.heap.size, 7, none⟩ = some (.slice (some ⟨b, off, none⟩) nf cf)) mixed ?_
          refine wpAnyH_take (i := 0) (v := ?v9) rfl (by kernel_rfl) (by kernel_rfl) (by kernel_rfl) (fun _ _ _ h => h) (Or.inl ⟨by rfl, ?hy9⟩) hS0 ?_
          case hy9 => (intro w' hw'; obtain ⟨hb', c7, d7⟩ := hw'; clear hb'; go_simp; try with_reducible rfl)
          simp only [List.getElem_toArray, List.getElem_cons_zero, List.getElem_cons_succ, Act.put, List.setIfInBounds_toArray, List.set_cons_zero, List.set_cons_succ]
          refine wpAnyH_take (i := 1) (v := ?v10) rfl (by kernel_rfl) (by kernel_rfl) (by kernel_rfl) (fun _ _ _ h => h) (Or.inl ⟨by rfl, ?hy10⟩) hS0 ?_
          case hy10 => (intro w' hw'; obtain ⟨hb', c7, d7⟩ := hw'; clear hb'; go_simp; try with_reducible rfl)
          simp only [List.getElem_toArray, List.getElem_cons_zero, List.getElem_cons_succ, Act.put, List.setIfInBounds_toArray, List.set_cons_zero, List.set_cons_succ]
          refine wpAnyH_take (i := 2) (v := ?v11) rfl (by kernel_rfl) (by kernel_rfl) (by kernel_rfl) (fun _ _ _ h => h) (Or.inl ⟨by rfl, ?hy11⟩) hS0 ?_
          case hy11 => (intro w' hw'; obtain ⟨hb', c7, d7⟩ := hw'; clear hb'; go_simp; try with_reducible rfl)
          simp only [List.getElem_toArray, List.getElem_cons_zero, List.getElem_cons_succ, Act.put, List.setIfInBounds_toArray, List.set_cons_zero, List.set_cons_succ]
          refine wpAnyH_take (i := 3) (v := ?v12) rfl (by kernel_rfl) (by kernel_rfl) (by kernel_rfl) (fun _ _ _ h => h) (Or.inl ⟨by rfl, ?hy12⟩) hS0 ?_
          case hy12 => (intro w' hw'; obtain ⟨hb', c7, d7⟩ := hw'; clear hb'; go_simp; try with_reducible rfl)
          simp only [List.getElem_toArray, List.getElem_cons_zero, List.getElem_cons_succ, Act.put, List.setIfInBounds_toArray, List.set_cons_zero, List.set_cons_succ]
          refine wpAnyH_take (i := 4) (v := ?v13) rfl (by kernel_rfl) (by kernel_rfl) (by kernel_rfl) (fun _ _ _ h => h) (Or.inl ⟨by rfl, ?hy13⟩) hS0 ?_
          case hy13 => (intro w' hw'; obtain ⟨hb', c7, d7⟩ := hw'; clear hb'; go_simp; try with_reducible rfl)
          simp only [List.getElem_toArray, List.getElem_cons_zero, List.getElem_cons_succ, Act.put, List.setIfInBounds_toArray, List.set_cons_zero, List.set_cons_succ]
          refine wpAnyH_take (i := 5) (v := ?v14) rfl (by kernel_rfl) (by kernel_rfl) (by kernel_rfl) (fun _ _ _ h => h) (Or.inl ⟨by rfl, ?hy14⟩) hS0 ?_
          case hy14 => (intro w' hw'; obtain ⟨hb', c7, d7⟩ := hw'; clear hb'; go_simp; try with_reducible rfl)
          simp only [List.getElem_toArray, List.getElem_cons_zero, List.getElem_cons_succ, Act.put, List.setIfInBounds_toArray, List.set_cons_zero, List.set_cons_succ]
          refine wpAnyH_take (i := 6) (v := ?v15) rfl (by kernel_rfl) (by kernel_rfl) (by kernel_rfl) (fun _ _ _ h => h) (Or.inl ⟨by rfl, ?hy15⟩) hS0 ?_
          case hy15 => (intro w' hw'; obtain ⟨hb', c7, d7⟩ := hw'; clear hb'; go_simp; try with_reducible rfl)
          simp only [List.getElem_toArray, List.getElem_cons_zero, List.getElem_cons_succ, Act.put, List.setIfInBounds_toArray, List.set_cons_zero, List.set_cons_succ]
          refine wpAnyH_take (i := 7) (v := ?v16) rfl (by kernel_rfl) (by kernel_rfl) (by kernel_rfl) (fun _ _ _ h => h) (Or.inl ⟨by rfl, ?hy16⟩) hS0 ?_
          case hy16 => (intro w' hw'; obtain ⟨hb', c7, d7⟩ := hw'; clear hb'; go_simp; try with_reducible rfl)
          simp only [List.getElem_toArray, List.getElem_cons_zero, List.getElem_cons_succ, Act.put, List.setIfInBounds_toArray, List.set_cons_zero, List.set_cons_succ]
          refine wpAnyH_take (i := 8) (v := ?v17) rfl (by kernel_rfl) (by kernel_rfl) (by kernel_rfl) (fun _ _ _ h => h) (Or.inl ⟨by rfl, ?hy17⟩) hS0 ?_
          case hy17 => (intro w' hw'; obtain ⟨hb', c7, d7⟩ := hw'; clear hb'; go_simp; try with_reducible rfl)
          simp only [List.getElem_toArray, List.getElem_cons_zero, List.getElem_cons_succ, Act.put, List.setIfInBounds_toArray, List.set_cons_zero, List.set_cons_succ]
          refine wpAnyH_take (i := 9) (v := ?v18) rfl (by kernel_rfl) (by kernel_rfl) (by kernel_rfl) (fun _ _ _ h => h) (Or.inl ⟨by rfl, ?hy18⟩) hS0 ?_
          case hy18 => (intro w' hw'; obtain ⟨hb', c7, d7⟩ := hw'; clear hb'; go_simp; try with_reducible rfl)
          simp only [List.getElem_toArray, List.getElem_cons_zero, List.getElem_cons_succ, Act.put, List.setIfInBounds_toArray, List.set_cons_zero, List.set_cons_succ]
          refine wpAnyH_take (i := 10) (v := ?v19) rfl (by kernel_rfl) (by kernel_rfl) (by kernel_rfl) (fun _ _ _ h => h) (Or.inl ⟨by rfl, ?hy19⟩) hS0 ?_
          case hy19 => (intro w' hw'; obtain ⟨hb', c7, d7⟩ := hw'; have cn := (hb'.cell (p := ⟨b, off + j * 9, none⟩) hbl).trans hn0; clear hb'; go_simp; try with_reducible rfl)
          simp only [List.getElem_toArray, List.getElem_cons_zero, List.getElem_cons_succ, Act.put, List.setIfInBounds_toArray, List.set_cons_zero, List.set_cons_succ]
          refine wpAnyH_take (i := 11) (v := ?v20) rfl (by kernel_rfl) (by kernel_rfl) (by kernel_rfl) (fun _ _ _ h => h) (Or.inl ⟨by rfl, ?hy20⟩) hS0 ?_
          case hy20 => (intro w' hw'; obtain ⟨hb', c7, d7⟩ := hw'; have cn := (hb'.cell (p := ⟨b, off + j * 9, none⟩) hbl).trans hn0; clear hb'; go_simp; try with_reducible rfl)
          simp only [List.getElem_toArray, List.getElem_cons_zero, List.getElem_cons_succ, Act.put, List.setIfInBounds_toArray, List.set_cons_zero, List.set_cons_succ]
          refine wpAnyH_take (i := 12) (v := ?v21) rfl (by kernel_rfl) (by kernel_rfl) (by kernel_rfl) (fun _ _ _ h => h) (Or.inl ⟨by rfl, ?hy21⟩) hS0 ?_
          case hy21 => (intro w' hw'; obtain ⟨hb', c7, d7⟩ := hw'; clear hb'; go_simp; try with_reducible rfl)
          simp only [List.getElem_toArray, List.getElem_cons_zero, List.getElem_cons_succ, Act.put, List.setIfInBounds_toArray, List.set_cons_zero, List.set_cons_succ]
          refine wpAnyH_take (i := 13) (v := ?v22) rfl (by kernel_rfl) (by kernel_rfl) (by kernel_rfl) (fun _ _ _ h => h) (Or.inl ⟨by rfl, ?hy22⟩) hS0 ?_
          case hy22 => (intro w' hw'; obtain ⟨hb', c7, d7⟩ := hw'; clear hb'; go_simp; try with_reducible rfl)
          simp only [List.getElem_toArray, List.getElem_cons_zero, List.getElem_cons_succ, Act.put, List.setIfInBounds_toArray, List.set_cons_zero, List.set_cons_succ]
          refine wpAnyH_take (i := 14) (v := ?v23) rfl (by kernel_rfl) (by kernel_rfl) (by kernel_rfl) (fun _ _ _ h => h) (Or.inl ⟨by rfl, ?hy23⟩) hS0 ?_
          case hy23 => (intro w' hw'; obtain ⟨hb', c7, d7⟩ := hw'; clear hb'; go_simp; try with_reducible rfl)
          simp only [List.getElem_toArray, List.getElem_cons_zero, List.getElem_cons_succ, Act.put, List.setIfInBounds_toArray, List.set_cons_zero, List.set_cons_succ]
          refine wpAnyH_take (i := 15) (v := ?v24) rfl (by kernel_rfl) (by kernel_rfl) (by kernel_rfl) (fun _ _ _ h => h) (Or.inl ⟨by rfl, ?hy24⟩) hS0 ?_
          case hy24 => (intro w' hw'; obtain ⟨hb', c7, d7⟩ := hw'; clear hb'; go_simp; try with_reducible rfl)
          simp only [List.getElem_toArray, List.getElem_cons_zero, List.getElem_cons_succ, Act.put, List.setIfInBounds_toArray, List.set_cons_zero, List.set_cons_succ]
          refine wpAnyH_take (i := 16) (v := ?v25) rfl (by kernel_rfl) (by kernel_rfl) (by kernel_rfl) (fun _ _ _ h => h) (Or.inl ⟨by rfl, ?hy25⟩) hS0 ?_
          case hy25 => (intro w' hw'; obtain ⟨hb', c7, d7⟩ := hw'; clear hb'; go_simp; try with_reducible rfl)
          simp only [List.getElem_toArray, List.getElem_cons_zero, List.getElem_cons_succ, Act.put, List.setIfInBounds_toArray, List.set_cons_zero, List.set_cons_succ]
          refine wpAnyH_take (i := 17) (v := ?v26) rfl (by kernel_rfl) (by kernel_rfl) (by kernel_rfl) (fun _ _ _ h => h) (Or.inl ⟨by rfl, ?hy26⟩) hS0 ?_
          case hy26 => (intro w' hw'; obtain ⟨hb', c7, d7⟩ := hw'; clear hb'; go_simp; try with_reducible rfl)
          simp only [List.getElem_toArray, List.getElem_cons_zero, List.getElem_cons_succ, Act.put, List.setIfInBounds_toArray, List.set_cons_zero, List.set_cons_succ]
          refine wpAnyH_take (i := 18) (v := ?v27) rfl (by kernel_rfl) (by kernel_rfl) (by kernel_rfl) (fun _ _ _ h => h) (Or.inl ⟨by rfl, ?hy27⟩) hS0 ?_
          case hy27 => (intro w' hw'; obtain ⟨hb', c7, d7⟩ := hw'; clear hb'; go_simp; try with_reducible rfl)
          simp only [List.getElem_toArray, List.getElem_cons_zero, List.getElem_cons_succ, Act.put, List.setIfInBounds_toArray, List.set_cons_zero, List.set_cons_succ]
          refine wpAnyH_take (i := 19) (v := ?v28) rfl (by kernel_rfl) (by kernel_rfl) (by kernel_rfl) (fun _ _ _ h => h) (Or.inl ⟨by rfl, ?hy28⟩) hS0 ?_
          case hy28 => (intro w' hw'; obtain ⟨hb', c7, d7⟩ := hw'; clear hb'; go_simp; try with_reducible rfl)
          simp only [List.getElem_toArray, List.getElem_cons_zero, List.getElem_cons_succ, Act.put, List.setIfInBounds_toArray, List.set_cons_zero, List.set_cons_succ]
          refine wpAnyH_take (i := 20) rfl (by kernel_rfl) (by kernel_rfl) (by kernel_rfl) (fun _ _ _ h => h) (yieldsIf_load_mid (by rfl) 27 _ (by rfl) b (off + j * 9 + 1) (by rfl) us _ (fun w' hw' => Row8.below (unhide HU).1 hw'.1) Try.underlying27 (by rfl) (unhide HU).2.2) hS0 ?_
          simp only [List.getElem_toArray, List.getElem_cons_zero, List.getElem_cons_succ, Act.put, List.setIfInBounds_toArray, List.set_cons_zero, List.set_cons_succ]
          refine rgn.one (i := 21) _ rfl (by kernel_rfl) (by rfl) ?_
          simp only [List.getElem_toArray, List.getElem_cons_zero, List.getElem_cons_succ, Act.put, List.setIfInBounds_toArray, List.set_cons_zero, List.set_cons_succ]
          go_wp2_with fail
          have dr : Below wr.heap.size wr { wr with drawn := wr.drawn + 1 } := (Below.refl _ _).drew
          refine ((unhide IH) (fun b => Q b ∨ b = w.heap.size ∨ b = w.heap.size + 1 ∨ b = w1.heap.size ∨ b = p ∨ b = q) us _ (fun b hb => by have := hQ1 wr (unhide HT).bel (unhide HT).siz b hb; exact this) (AvC.agree (fun b hl hn e => by
            rcases e with h | h | h | h | h | h
            · exact hn h
            · omega
            · omega
            · have := bW.size; omega
            · omega
            · omega) (fun b j hl _ => hS0.1.cell (p := ⟨b, j, none⟩) hl) v us (unhide HU).2.1)).mono ?_
          rintro e w3 ⟨v', es, rfl, rfl, hO3, b3⟩
          have b4 : Below wr.heap.size wr w3 := dr.trans b3
          have hT3 := (unhide HT).below hB2 hpL hqL b4
          have hS0 : Below w.heap.size w w3 ∧ w3.cell? ⟨w1.heap.size, 7, none⟩ = some (.slice (some ⟨q, 0, none⟩) nf df) ∧ w3.cell? ⟨w.heap.size, 7, none⟩ = some (.slice (some ⟨b, off, none⟩) nf cf) := ⟨hT3.bel, hT3.c2 7 _ rfl, hT3.c0 7 _ rfl⟩
          have e8 := hO3.cells
          have e1 := one9 nm (AvC.read _ _ hO3)
          have ht3 : w3.there q (m * 9) (Value.string nm :: es).toArray.size := there_sub hT3.thF (Nat.zero_le _) (by simp [e8]; omega)
          have ie : (Try.prog.info? 69).map (·.size) = some (Value.string nm :: es).toArray.size := by simp [e8, infoM]
          have hTn := hide (hT3.putF (.inr (.inr (.inr (.inr (.inr rfl))))) (by omega) (by omega) hpq hlt2 (unhide HGV) hnz hO3)
          refine ⟨hS0, ?_⟩
          refine rgn.take (i := 22) _ (.agg (Value.string nm :: es).toArray) rfl (by kernel_rfl) (by kernel_rfl) (by kernel_rfl) (fun _ _ _ h => h) (by rfl) hS0 (fun w' hw' => by
            have hO4 := hO3
            clear hO3 e8 e1 ht3 ie hTn hS0 hT3 hw' HGV HU IH HT
            generalize turnV v = v' at *
            obtain ⟨kd, bb, ni, f, tx, ty, its, fls⟩ := v'
            unfold AvC at hO4
            obtain ⟨ai, nI, ci, af, nf, cf, rfl, -⟩ := hO4
            go_simp) ?_
          simp only [List.getElem_toArray, List.getElem_cons_zero, List.getElem_cons_succ, Act.put, List.setIfInBounds_toArray, List.set_cons_zero, List.set_cons_succ]
          refine wpAnyH_take (i := 23) (v := ?v29) rfl (by kernel_rfl) (by kernel_rfl) (by kernel_rfl) (fun _ _ _ h => h) (Or.inl ⟨by rfl, ?hy29⟩) hS0 ?_
          case hy29 => (intro w' hw'; obtain ⟨hb', c7, d7⟩ := hw'; clear hb'; go_simp; try with_reducible rfl)
          simp only [List.getElem_toArray, List.getElem_cons_zero, List.getElem_cons_succ, Act.put, List.setIfInBounds_toArray, List.set_cons_zero, List.set_cons_succ]
          refine rgn.one (i := 24) _ rfl (by kernel_rfl) (by rfl) ?_
          simp only [List.getElem_toArray, List.getElem_cons_zero, List.getElem_cons_succ, Act.put, List.setIfInBounds_toArray, List.set_cons_zero, List.set_cons_succ]
          refine wp_store_mid 69 _ _ (by rfl) q (m * 9) (Value.string nm :: es).toArray (by rfl) (by rfl) ht3 ie e1 ?_
          refine ⟨⟨(unhide hTn).bel, (unhide hTn).c2 7 _ rfl, (unhide hTn).c0 7 _ rfl⟩, ?_⟩
          refine wpAnyH_done (by kernel_rfl) ?_ _
          refine NoPanic.normal ?_
          try simp only [List.getElem_toArray, List.getElem_cons_zero, List.getElem_cons_succ, Act.put, List.setIfInBounds_toArray, List.set_cons_zero, List.set_cons_succ]
          obtain ⟨w5, e5⟩ : ∃ w5, w5 = w3.setCells q (m * 9) (Value.string nm :: es) := ⟨_, rfl⟩
          rw [← e5] at hTn
          rw [show w3.setCells q (m * 9) (Value.string nm :: es).toArray.toList = w5 from e5.symm]
          clear e5 ht3 ie e1 e8 hS0 hT3 HU IH we1 we2 j0 lj hn0
          go_wp2
          go_roundw
          case rel => exact ⟨m + 1, by omega, by go_num, hTn⟩
          case measure => simp [intOf]; omega
        · obtain rfl : m = nf := by omega
          obtain ⟨L, eL⟩ : ∃ L : List Value, L = [.int .i64 kd, .bool bb, .int .i64 ni, .float .f64 f, .string tx, .string ty, .slice bi k di, .slice bf m df] := ⟨_, rfl⟩
          have hL8 : L.length = 8 := by rw [eL]; rfl
          have hrL : wr.rangeAt w1.heap.size 0 L := by rw [eL]; exact hT.c2
          have iL : (Try.prog.info? 27).map (·.size) = some L.length := by rw [hL8]; exact infoV
          have iL' : (Try.prog.info? 27).map (·.size) = some L.toArray.size := by simp [hL8, infoV]
          have ho8 : L.toArray.all (·.oneCell') = true := by rw [eL]; simp [Value.oneCell']
          have hthL : wr.there (w.heap.size + 1) 0 L.toArray.size := by simp only [List.size_toArray, hL8]; exact hT.th
          have HH := hide (And.intro hthL (And.intro hrL (And.intro iL (And.intro iL' (And.intro hL8 eL)))))
          clear hthL hrL iL iL' hL8 eL hT
          go_wp2_with (first
            | refine wpList_load_mid (by rfl) 27 _ (by rfl) w1.heap.size 0 (by rfl) L _ (unhide HH).2.1 Try.underlying27 (by rfl) (unhide HH).2.2.1 ?_
            | refine wpList_store_mid (by rfl) 27 _ _ (by rfl) (w.heap.size + 1) 0 L.toArray (by rfl) (by rfl) (unhide HH).1 (unhide HH).2.2.2.1 ho8 ?_)
          obtain ⟨hthL, hrL, iL, iL', hL8, eL⟩ := unhide HH
          have hT := unhide HT
          have hr4 : (wr.setCells (w.heap.size + 1) 0 L).rangeAt (w.heap.size + 1) 0 L := World.rangeAt_setCells_same _ _ _ _ (by have h := hthL; rw [List.size_toArray] at h; exact h)
          have g4 : Below w.heap.size w (wr.setCells (w.heap.size + 1) 0 L) := below_setCells _ _ _ _ hT.bel (Nat.le_succ _)
          have c4 : ∀ b j, b ≠ w.heap.size + 1 → (wr.setCells (w.heap.size + 1) 0 L).cell? ⟨b, j, none⟩ = wr.cell? ⟨b, j, none⟩ := fun b j h2 => World.cell?_setCells_out _ _ _ _ _ (fun e _ => absurd (show b = w.heap.size + 1 from e) h2)
          refine bodyPost_ret (rgn.result_row rfl _ _ (w.heap.size + 1) 0 L _ rfl hr4 Try.underlying27 rfl iL) rfl ?_
          refine ⟨_, L, rfl, rfl, ?_, g4⟩
          have hIt : AvI Q (wr.setCells (w.heap.size + 1) 0 L) (turnI its) bi k := by
            rw [turnI_of]
            rcases hp with ⟨h0, rfl⟩ | rfl
            · have : its.list = [] := List.eq_nil_of_length_eq_zero ((unhide EI).trans h0)
              rw [this]
              simp only [List.map_nil, Vls.of]
              unfold AvI
              exact h0
            · by_cases hk0 : k = 0
              · have : its.list = [] := List.eq_nil_of_length_eq_zero ((unhide EI).trans hk0)
                rw [this]
                simp only [List.map_nil, Vls.of]
                unfold AvI
                exact hk0
              · have hpp : w.heap.size + 1 < p := hp1.resolve_left hk0
                have hnq : ¬ Q p := fun h => by have := hQ _ h; omega
                have := AvI.mk (w := wr.setCells (w.heap.size + 1) 0 L) hnq (its.list.map turnV) 0 (fun i u hu => by
                  rw [List.getElem?_map, Option.map_eq_some_iff] at hu
                  obtain ⟨x, hx, rfl⟩ := hu
                  obtain ⟨us, r1, r2⟩ := hT.dI i x (by rw [← unhide EI]; exact (List.getElem?_eq_some_iff.1 hx).1) hx
                  exact ⟨us, fun j y hy => (c4 _ _ (by omega)).trans (by have := r1 j y hy; rwa [show 0 + i * 8 + j = i * 8 + j by omega]), AvC.agree (fun b _ hn e => hn (.inl e)) (fun b j _ hn => c4 b j (fun e => hn (.inr (.inr (.inl e))))) _ us r2⟩)
                rw [List.length_map, unhide EI] at this
                exact this
          have hFt : AvF Q (wr.setCells (w.heap.size + 1) 0 L) (turnF fls .nil) bf m := by
            rw [turnF_of]
            have hrl : (rvF fls).length = m := by unfold rvF; rw [List.length_map, List.length_reverse, unhide EF]
            rcases hq with ⟨h0, rfl⟩ | rfl
            · have : rvF fls = [] := List.eq_nil_of_length_eq_zero (hrl.trans h0)
              rw [this]
              simp only [Fls.of]
              unfold AvF
              exact h0
            · by_cases hk0 : m = 0
              · have : rvF fls = [] := List.eq_nil_of_length_eq_zero (hrl.trans hk0)
                rw [this]
                simp only [Fls.of]
                unfold AvF
                exact hk0
              · have hpp : w.heap.size + 1 < q := hq1.resolve_left hk0
                have hnq : ¬ Q q := fun h => by have := hQ _ h; omega
                have := AvF.mk (w := wr.setCells (w.heap.size + 1) 0 L) hnq (rvF fls) 0 (fun i x hx => by
                  obtain ⟨us, r0, rz, r1, r2⟩ := hT.dF i x (by rw [← hrl]; exact (List.getElem?_eq_some_iff.1 hx).1) hx
                  exact ⟨us, (c4 _ _ (by omega)).trans (by rw [Nat.zero_add]; exact r0), rz, fun j y hy => (c4 _ _ (by omega)).trans (by have := r1 j y hy; rwa [show 0 + i * 9 + 1 + j = i * 9 + 1 + j by omega]), AvC.agree (fun b _ hn e => hn (.inl e)) (fun b j _ hn => c4 b j (fun e => hn (.inr (.inr (.inl e))))) _ us r2⟩)
                rw [hrl] at this
                exact this
          unfold turnV AvC
          exact ⟨bi, k, di, bf, m, df, eL, hIt, hFt, s1, s2, s3, s4, s5, s6, s7, s8, s9, s10⟩
end Go.Proofs.Ythpcpminikmcbaa.og
namespace Go.Proofs.Ythpcpminikmcbaa.og
open Go.ChangeShapes Go.WideShapes Go.ChangeAt Go.RowKit Go.Shelf
open vl hiding cB cFl cS cF cI cK cIt
open stp (c3 c3_lt c3_gt c3_eq cB cB_tri St)
attribute [local go_sem] Oper.semAt_some
set_option linter.unusedVariables false
set_option linter.unusedSimpArgs false
/-- a value's children, each with the step to it -/
def kids : Vl → List (St × Vl)
  | .mk kd _ _ _ _ _ its fls => if kd = 5 then its.list.zipIdx.map (fun p => (⟨⟨#[]⟩, (p.2 : Int), true⟩, p.1)) else if kd = 6 then fls.list.map (fun q => (⟨q.1, 0, false⟩, q.2)) else []
/-- a child as it is handed to yield: it can be read in w0 -/
def Kid (w0 : World) (ks : List (St × Vl)) : Type := { x : St × Vl × List Value // VlC w0 x.2.1 x.2.2 ∧ (x.1, x.2.1) ∈ ks }
def Kid.sv {w0 : World} {ks : List (St × Vl)} (x : Kid w0 ks) : St × Vl := (x.1.1, x.1.2.1)
def Kid.enc {w0 : World} {ks : List (St × Vl)} (x : Kid w0 ks) : Array Value := #[.agg #[.string x.1.1.nm, .int .i64 x.1.1.ix, .bool x.1.1.it], .agg x.1.2.2.toArray]
theorem take_map_snoc {w0 : World} {ks l : List (St × Vl)} {pre : List (Kid w0 ks)} {k : Nat} {x : Kid w0 ks} (h : pre.map Kid.sv = l.take k) (hx : l[k]? = some x.sv) : (pre ++ [x]).map Kid.sv = l.take (k + 1) := by
  rw [List.map_append, h, List.take_add_one, hx]
  rfl
theorem pre_len {w0 : World} {ks l : List (St × Vl)} {pre : List (Kid w0 ks)} {k : Nat} (h : pre.map Kid.sv = l.take k) (hk : k < l.length) : pre.length < l.length := by
  have := congrArg List.length h
  simp at this
  omega
theorem kids_list (b : Bool) (n : Int) (f : Nat) (tx ty : ByteArray) (its : Vls) (fls : Fls) : kids (.mk 5 b n f tx ty its fls) = its.list.zipIdx.map (fun p => (⟨⟨#[]⟩, (p.2 : Int), true⟩, p.1)) := by simp [kids]
theorem kids_obj (b : Bool) (n : Int) (f : Nat) (tx ty : ByteArray) (its : Vls) (fls : Fls) : kids (.mk 6 b n f tx ty its fls) = fls.list.map (fun q => (⟨q.1, 0, false⟩, q.2)) := by simp [kids]
theorem kids_none {kd : Int} (h5 : kd ≠ 5) (h6 : kd ≠ 6) (b : Bool) (n : Int) (f : Nat) (tx ty : ByteArray) (its : Vls) (fls : Fls) : kids (.mk kd b n f tx ty its fls) = [] := by simp [kids, h5, h6]
theorem keepC' {w w' : World} {b o : Nat} {u : Value} (h : Below w.heap.size w w') (hc : w.cell? ⟨b, o, none⟩ = some u) : w'.cell? ⟨b, o, none⟩ = some u := keepC h (World.block_lt_of_cell? w _ hc) hc
theorem children_in (F : Fence) (n : Nat) (hF : F.fn 37) (hro : F.round = none) (cs : List Value) (w : World) :
    CallsIn F n Try.prog 37 #[.agg cs.toArray] w fun e w' => e = .returned (.func (.func 71) #[] #[.pointer (some ⟨w.heap.size, 0, none⟩)]) ∧ w' = w.alloc (.cells cs.toArray 27) := by
  refine callsIn_of_wp Try.func37 rfl hF ?_ hro
  simp only [Try.ntmps37, List.size_toArray, List.length_cons, List.length_nil, Nat.reduceAdd, Nat.reduceSub, Array.replicate_succ, Array.replicate_zero, List.push_toArray, List.append_toArray, List.nil_append, List.cons_append]
  gi_wp2
  go_ret
  exact ⟨rfl, rfl⟩
set_option maxRecDepth 100000 in
set_option maxHeartbeats 4000000 in
theorem kids1_in (F : Fence) (n : Nat) (hF : F.fn 71) (hro : F.round = none) (hn : 1 ≤ n) (l Bv : Nat) (w0 : World) (v : Vl) (cs : List Value) (hv : VlC w0 v cs) (hsm : Small v) (ks : List (St × Vl)) (hks : kids v = ks) (J Jx : List (Kid w0 ks) → World → Prop)
    (B : Nat) (hJ : AbidesFrom B J) (hY : ∀ pre x W, J pre W → pre.length < ks.length → YieldAt F (n - 1) Try.prog l (Kid.enc x) W fun e W' =>
      (e = .returned (.bool true) ∧ J (pre ++ [x]) W' ∧ Below w0.heap.size W W') ∨ (e = .returned (.bool false) ∧ Jx (pre ++ [x]) W'))
    (W : World) (h0W : Below w0.heap.size w0 W) (hr : W.rangeAt Bv 0 cs) (h0 : J [] W) :
    CallsIn F n Try.prog 71 #[.func (.yield l) #[] #[], .pointer (some ⟨Bv, 0, none⟩)] W fun e W' => (∃ v, e = .returned v) ∧
      ((∃ xs : List (Kid w0 ks), xs.map Kid.sv = ks ∧ J xs W') ∨ (∃ pre : List (Kid w0 ks), (∃ k, k ≤ ks.length ∧ pre.map Kid.sv = ks.take k) ∧ Jx pre W')) := by
  obtain ⟨kd, b, m, f, tx, ty, its, fls⟩ := v
  unfold VlC at hv
  obtain ⟨ai, ni, ci, af, nf, cf, rfl, hI, hFl, hni, hnf, -, -, -, -, -, -, hci, hcf⟩ := hv
  unfold Small at hsm
  obtain ⟨hlI, hlF, -⟩ := hsm
  have bI : ni ≤ 1256584717458 := by rw [← VlsAt.len its _ _ hI]; exact hlI
  have bF : nf ≤ 1099511627776 := by rw [← FlsAt.len fls _ _ hFl]; exact hlF
  clear hlI hlF hni hnf hci hcf
  have x0 : W.cell? ⟨Bv, 0, none⟩ = some (.int .i64 kd) := hr 0 _ rfl
  have x6 : W.cell? ⟨Bv, 6, none⟩ = some (.slice ai ni ci) := hr 6 _ rfl
  have x7 : W.cell? ⟨Bv, 7, none⟩ = some (.slice af nf cf) := hr 7 _ rfl
  clear hr
  refine callsIn_of_wp Try.func71 rfl hF ?_ hro
  simp only [Try.ntmps71, List.size_toArray, List.length_cons, List.length_nil, Nat.reduceAdd, Nat.reduceSub, Array.replicate_succ, Array.replicate_zero, List.push_toArray, List.append_toArray, List.nil_append, List.cons_append]
  by_cases h5 : kd = 5
  · subst h5
    have hkl := VlsAt.len its _ _ hI
    have KL := hide (show ks.length = ni by rw [← hks, kids_list]; simp [hkl])
    have KK := hide (show ∀ (k : Nat) (u : Vl), its.list[k]? = some u → ks[k]? = some (⟨⟨#[]⟩, (k : Int), true⟩, u) from fun k u hu => by rw [← hks, kids_list]; simp [List.getElem?_zipIdx, hu])
    clear hkl hks
    gi_wp2
    gi_loopw [14] (fun i wr => ∃ (k : Nat) (pre : List (Kid w0 ks)), k ≤ ni ∧ i = .int .i64 k ∧ vl.Hid (pre.map Kid.sv = ks.take k) ∧ J pre wr ∧ Below w0.heap.size w0 wr) (fun i _ => ni - (intOf i).toNat)
    case atStart => exact ⟨0, [], Nat.zero_le _, rfl, hide (by simp), h0, h0W⟩
    case round =>
      obtain ⟨k, pre, hk, rfl, hp, hJs, hnx⟩ := hrel
      by_cases hlt : k < ni
      · have ki : (k : Int) < (ni : Int) := by omega
        obtain ⟨p, off, u, us, rfl, hg, hrow, hu⟩ := VlsAt.get its _ _ hI k hlt
        have hu' := hu
        obtain ⟨ukd, ub, um, uf, utx, uty, uits, ufls⟩ := u
        unfold VlC at hu'
        obtain ⟨uai, uni, uci, uaf, unf, ucf, rfl, -⟩ := hu'
        obtain ⟨z0, z1, z2, z3, z4, z5, z6, z7⟩ := Row8.eight (Row8.below hrow hnx)
        clear hrow
        obtain ⟨x, hx⟩ : ∃ x : Kid w0 ks, x.1 = (⟨⟨#[]⟩, (k : Int), true⟩, .mk ukd ub um uf utx uty uits ufls, [.int .i64 ukd, .bool ub, .int .i64 um, .float .f64 uf, .string utx, .string uty, .slice uai uni uci, .slice uaf unf ucf]) := ⟨⟨_, hu, List.mem_of_getElem? (unhide KK k _ hg)⟩, rfl⟩
        have hsv : x.sv = (⟨⟨#[]⟩, (k : Int), true⟩, .mk ukd ub um uf utx uty uits ufls) := by unfold Kid.sv; rw [hx]
        have henc : x.enc = #[.agg #[.string ⟨#[]⟩, .int .i64 (k : Int), .bool true], .agg #[.int .i64 ukd, .bool ub, .int .i64 um, .float .f64 uf, .string utx, .string uty, .slice uai uni uci, .slice uaf unf ucf]] := by unfold Kid.enc; rw [hx]
        have hnext := hide (take_map_snoc (unhide hp) (by rw [hsv]; exact unhide KK k _ hg))
        obtain ⟨fn, tmps, assign, body, hy, hR⟩ := hY pre x (wr.alloc (.cells #[.int .i64 ukd, .bool ub, .int .i64 um, .float .f64 uf, .string utx, .string uty, .slice uai uni uci, .slice uaf unf ucf] 27)) (hJ _ _ _ none hJs (World.grownBy_alloc _ _ none) (fun r e => by cases e)) (pre_len (unhide hp) (by rw [unhide KL]; exact hlt))
        rw [henc] at hy
        have b3 : Below w0.heap.size w0 (wr.alloc (.cells #[.int .i64 ukd, .bool ub, .int .i64 um, .float .f64 uf, .string utx, .string uty, .slice uai uni uci, .slice uaf unf ucf] 27)) := hnx.alloc hnx.size _
        have B3 := hide b3
        have HR := hide hR
        have HG := hide hg
        clear hx hsv henc hg hu hY b3 hR x0 x6 x7
        have hsf := storeF
        gi_wp2
        clear hsf
        refine (unhide HR).mono ?_
        rintro e W3 (⟨rfl, hJ3, hk3⟩ | ⟨rfl, hJx3⟩)
        · gi_wp2
          go_roundw
          case rel => exact ⟨k + 1, _, by omega, by simp, hnext, hJ3, (unhide B3).trans hk3⟩
          case measure => simp [intOf]; omega
        · gi_wp2
          refine bodyPost_ret (results_none rfl _ _ _) rfl ?_
          exact ⟨⟨_, rfl⟩, .inr ⟨_, ⟨k + 1, by rw [unhide KL]; omega, unhide hnext⟩, hJx3⟩⟩
      · obtain rfl : k = ni := by omega
        gi_wp2
        go_end0
        refine ⟨⟨_, rfl⟩, .inl ⟨_, ?_, hJs⟩⟩
        have := unhide hp
        rwa [List.take_of_length_le (Nat.le_of_eq (unhide KL))] at this
  · by_cases h6 : kd = 6
    · subst h6
      have hkl := FlsAt.len fls _ _ hFl
      have KL := hide (show ks.length = nf by rw [← hks, kids_obj]; simp [hkl])
      have KK := hide (show ∀ (k : Nat) (nm : ByteArray) (u : Vl), fls.list[k]? = some (nm, u) → ks[k]? = some (⟨nm, 0, false⟩, u) from fun k nm u hu => by rw [← hks, kids_obj]; simp [hu])
      clear hkl hks
      gi_wp2
      gi_loopw [31] (fun i wr => ∃ (k : Nat) (pre : List (Kid w0 ks)), k ≤ nf ∧ i = .int .i64 k ∧ vl.Hid (pre.map Kid.sv = ks.take k) ∧ J pre wr ∧ Below w0.heap.size w0 wr) (fun i _ => nf - (intOf i).toNat)
      case atStart => exact ⟨0, [], Nat.zero_le _, rfl, hide (by simp), h0, h0W⟩
      case round =>
        obtain ⟨k, pre, hk, rfl, hp, hJs, hnx⟩ := hrel
        by_cases hlt : k < nf
        · have ki : (k : Int) < (nf : Int) := by omega
          obtain ⟨p, off, nm, u, us, rfl, hg, hn0, -, hrow, hu⟩ := FlsAt.get fls _ _ hFl k hlt
          have hu' := hu
          obtain ⟨ukd, ub, um, uf, utx, uty, uits, ufls⟩ := u
          unfold VlC at hu'
          obtain ⟨uai, uni, uci, uaf, unf, ucf, rfl, -⟩ := hu'
          obtain ⟨z0, z1, z2, z3, z4, z5, z6, z7⟩ := Row8.eight (Row8.below hrow hnx)
          have zn := keepC' hnx hn0
          clear hrow hn0
          obtain ⟨x, hx⟩ : ∃ x : Kid w0 ks, x.1 = (⟨nm, 0, false⟩, .mk ukd ub um uf utx uty uits ufls, [.int .i64 ukd, .bool ub, .int .i64 um, .float .f64 uf, .string utx, .string uty, .slice uai uni uci, .slice uaf unf ucf]) := ⟨⟨_, hu, List.mem_of_getElem? (unhide KK k nm _ hg)⟩, rfl⟩
          have hsv : x.sv = (⟨nm, 0, false⟩, .mk ukd ub um uf utx uty uits ufls) := by unfold Kid.sv; rw [hx]
          have henc : x.enc = #[.agg #[.string nm, .int .i64 0, .bool false], .agg #[.int .i64 ukd, .bool ub, .int .i64 um, .float .f64 uf, .string utx, .string uty, .slice uai uni uci, .slice uaf unf ucf]] := by unfold Kid.enc; rw [hx]
          have hnext := hide (take_map_snoc (unhide hp) (by rw [hsv]; exact unhide KK k nm _ hg))
          obtain ⟨fn, tmps, assign, body, hy, hR⟩ := hY pre x (wr.alloc (.cells #[.string nm, .int .i64 ukd, .bool ub, .int .i64 um, .float .f64 uf, .string utx, .string uty, .slice uai uni uci, .slice uaf unf ucf] 69)) (hJ _ _ _ none hJs (World.grownBy_alloc _ _ none) (fun r e => by cases e)) (pre_len (unhide hp) (by rw [unhide KL]; exact hlt))
          rw [henc] at hy
          have b3 : Below w0.heap.size w0 (wr.alloc (.cells #[.string nm, .int .i64 ukd, .bool ub, .int .i64 um, .float .f64 uf, .string utx, .string uty, .slice uai uni uci, .slice uaf unf ucf] 69)) := hnx.alloc hnx.size _
          have B3 := hide b3
          have HR := hide hR
          have HG := hide hg
          clear hx hsv henc hg hu hY b3 hR x0 x6 x7
          have hsf := storeF
          gi_wp2
          clear hsf
          refine (unhide HR).mono ?_
          rintro e W3 (⟨rfl, hJ3, hk3⟩ | ⟨rfl, hJx3⟩)
          · gi_wp2
            go_roundw
            case rel => exact ⟨k + 1, _, by omega, by simp, hnext, hJ3, (unhide B3).trans hk3⟩
            case measure => simp [intOf]; omega
          · gi_wp2
            refine bodyPost_ret (results_none rfl _ _ _) rfl ?_
            exact ⟨⟨_, rfl⟩, .inr ⟨_, ⟨k + 1, by rw [unhide KL]; omega, unhide hnext⟩, hJx3⟩⟩
        · obtain rfl : k = nf := by omega
          gi_wp2
          go_end0
          refine ⟨⟨_, rfl⟩, .inl ⟨_, ?_, hJs⟩⟩
          have := unhide hp
          rwa [List.take_of_length_le (Nat.le_of_eq (unhide KL))] at this
    · have hq5 : (kd == 5) = false := by simpa using h5
      have hq6 : (kd == 6) = false := by simpa using h6
      have HK := hide (hks.symm.trans (kids_none h5 h6 b m f tx ty its fls))
      gi_wp2
      go_end0
      exact ⟨⟨_, rfl⟩, .inl ⟨[], by rw [unhide HK]; rfl, h0⟩⟩
end Go.Proofs.Ythpcpminikmcbaa.og
namespace Go.Proofs.Ythpcpminikmcbaa.og
open Go.ChangeShapes Go.WideShapes Go.ChangeAt Go.RowKit Go.Shelf
open vl hiding cB cFl cS cF cI cK cIt
open stp (c3 c3_lt c3_gt c3_eq cB cB_tri St)
attribute [local go_sem] Oper.semAt_some
set_option linter.unusedVariables false
set_option linter.unusedSimpArgs false
theorem kids_stops (F : Fence) (n : Nat) (hF : F.fn 71) (hro : F.round = none) (hn : 1 ≤ n) (Bv : Nat) (w0 : World) (v : Vl) (cs : List Value) (hv : VlC w0 v cs) (hsm : Small v) (w : World) (h0w : Below w0.heap.size w0 w) (hB : Bv < w.heap.size) (hr : w.rangeAt Bv 0 cs) :
    SeqStopsK F n Try.prog 71 #[.pointer (some ⟨Bv, 0, none⟩)] (Kid.enc (w0 := w0) (ks := kids v)) (Below w0.heap.size) (fun xs => xs.map Kid.sv = kids v) (fun pre => ∃ k, k ≤ (kids v).length ∧ pre.map Kid.sv = (kids v).take k) (kids v).length w :=
  fun l J Jx W hW hJ hJx hY h0 => kids1_in F n hF hro hn l Bv w0 v cs hv hsm (kids v) rfl J Jx W.heap.size hJ hY W (h0w.trans (hW.mono h0w.size)) (Row8.below hr hW) h0
mutual
/-- how many parts -/
def cnt : Vl → Nat
  | .mk kd _ _ _ _ _ its fls => 1 + (if kd = 5 then cntI its else if kd = 6 then cntF fls else 0)
def cntI : Vls → Nat
  | .nil => 0
  | .cons v r => cnt v + cntI r
def cntF : Fls → Nat
  | .nil => 0
  | .cons _ v r => cnt v + cntF r
end
mutual
/-- how deep, as the machine counts -/
def depW : Vl → Int
  | .mk kd _ _ _ _ _ its fls => if kd = 5 then wrap64 (1 + mxI its 0) else if kd = 6 then wrap64 (1 + mxF fls 0) else 0
def mxI : Vls → Int → Int
  | .nil, a => a
  | .cons v r, a => mxI r (max a (depW v))
def mxF : Fls → Int → Int
  | .nil, a => a
  | .cons _ v r, a => mxF r (max a (depW v))
end
theorem cntI_sum : ∀ l : Vls, cntI l = (l.list.map cnt).sum
  | .nil => by simp [cntI, Vls.list]
  | .cons v r => by rw [cntI, cntI_sum r]; simp [Vls.list]
theorem cntF_sum : ∀ l : Fls, cntF l = (l.list.map (fun q => cnt q.2)).sum
  | .nil => by simp [cntF, Fls.list]
  | .cons nm v r => by rw [cntF, cntF_sum r]; simp [Fls.list]
theorem mxI_fold : ∀ (l : Vls) (a : Int), mxI l a = (l.list.map depW).foldl max a
  | .nil, a => by simp [mxI, Vls.list]
  | .cons v r, a => by rw [mxI, mxI_fold r]; simp [Vls.list]
theorem mxF_fold : ∀ (l : Fls) (a : Int), mxF l a = (l.list.map (fun q => depW q.2)).foldl max a
  | .nil, a => by simp [mxF, Fls.list]
  | .cons nm v r, a => by rw [mxF, mxF_fold r]; simp [Fls.list]
theorem zip_map {α β : Type} (g : α → β) : ∀ (l : List α) (i : Nat), (l.zipIdx i).map (fun p => g p.1) = l.map g
  | [], i => rfl
  | a :: l, i => by simp only [List.zipIdx_cons, List.map_cons]; rw [zip_map g l (i + 1)]
theorem kids_map {β : Type} (g : Vl → β) (kd : Int) (b : Bool) (n : Int) (f : Nat) (tx ty : ByteArray) (its : Vls) (fls : Fls) :
    (kids (.mk kd b n f tx ty its fls)).map (fun p => g p.2) = if kd = 5 then its.list.map g else if kd = 6 then fls.list.map (fun q => g q.2) else [] := by
  by_cases h5 : kd = 5
  · subst h5
    rw [kids_list, if_pos rfl, List.map_map]
    exact zip_map g its.list 0
  · by_cases h6 : kd = 6
    · subst h6
      rw [kids_obj, if_neg h5, if_pos rfl, List.map_map]
      rfl
    · rw [kids_none h5 h6, if_neg h5, if_neg h6]
      rfl
theorem cnt_kids (v : Vl) : cnt v = 1 + ((kids v).map (fun p => cnt p.2)).sum := by
  obtain ⟨kd, b, n, f, tx, ty, its, fls⟩ := v
  rw [kids_map, cnt, cntI_sum, cntF_sum]
  split
  · rfl
  · split <;> rfl
theorem dep_kids (kd : Int) (b : Bool) (n : Int) (f : Nat) (tx ty : ByteArray) (its : Vls) (fls : Fls) (h : kd = 5 ∨ kd = 6) : depW (.mk kd b n f tx ty its fls) = wrap64 (1 + ((kids (.mk kd b n f tx ty its fls)).map (fun p => depW p.2)).foldl max 0) := by
  rw [kids_map, depW, mxI_fold, mxF_fold]
  rcases h with rfl | rfl <;> simp
theorem mem_kids {P : Vl → Prop} {kd : Int} {b : Bool} {n : Int} {f : Nat} {tx ty : ByteArray} {its : Vls} {fls : Fls} (hI : ∀ v ∈ its.list, P v) (hF : ∀ q ∈ fls.list, P q.2) : ∀ p ∈ kids (.mk kd b n f tx ty its fls), P p.2 := by
  intro p hp
  have : P p.2 ∨ False := by
    have hm := List.mem_map_of_mem (f := fun p : St × Vl => p.2) hp
    rw [kids_map (fun v => v)] at hm
    split at hm
    · exact .inl (hI _ (by simpa using hm))
    · split at hm
      · simp only [List.mem_map] at hm
        obtain ⟨q, hq, e⟩ := hm
        exact .inl (e ▸ hF q hq)
      · simp at hm
  exact this.elim id False.elim
def CountAt (v : Vl) : Prop := ∀ (cs : List Value) (w : World), VlC w v cs → Calls Try.prog 18 #[.agg cs.toArray] w fun e w' => e = .returned (.int .i64 (wrap64 (cnt v : Nat))) ∧ Below w.heap.size w w'
theorem wrap_add (x y : Int) : wrap64 (wrap64 x + wrap64 y) = wrap64 (x + y) := by unfold wrap64; omega
theorem keepsFrom_below {B : Nat} {W W' : World} (h : Below W.heap.size W W') : KeepsFrom B W W' := ⟨h.size, fun k o _ hk _ => (h.block k (Array.getElem?_eq_some_iff.1 hk).1).trans hk⟩
theorem range_own {β : Type} (B : Nat) (f : β → List Value) (hne : ∀ s, f s ≠ []) : Own (fun s W => W.rangeAt B 0 (f s)) := fun s X Y row hs hg hrow j u hu => cell_kept (hs j u hu) hg hrow
set_option maxRecDepth 100000 in
set_option maxHeartbeats 4000000 in
theorem count_step (v : Vl) (hsm : Small v) (ih : ∀ p ∈ kids v, CountAt p.2) : CountAt v := by
  intro cs w hv
  have hc0 := hv
  obtain ⟨kd, b, m, f, tx, ty, its, fls⟩ := v
  unfold VlC at hc0
  obtain ⟨ai, ni, ci, af, nf, cf, rfl, -⟩ := hc0
  have hck := hide (cnt_kids (.mk kd b m f tx ty its fls))
  have hsf := storeF
  refine (callsIn_wide (n := 8)).1 ?_
  refine callsIn_of_wp_marks Try.func18 rfl trivial ?_ rfl
  simp only [Try.ntmps18, List.size_toArray, List.length_cons, List.length_nil, Nat.reduceAdd, Nat.reduceSub, Array.replicate_succ, Array.replicate_zero, List.push_toArray, List.append_toArray, List.nil_append, List.cons_append]
  gi_wp2_with (refine ⟨trivial, ?_⟩; gi_at_call 37; refine (children_in Fence.wide _ trivial rfl _ _).mono ?_; rintro e w' ⟨rfl, rfl⟩)
  obtain ⟨W0, hW0⟩ : ∃ W0, W0 = ((w.alloc (.cells #[Value.int IntKind.i64 kd, Value.bool b, Value.int IntKind.i64 m, Value.float FloatKind.f64 f, Value.string tx, Value.string ty, Value.slice ai ni ci, Value.slice af nf cf] 27)).alloc (.cells #[.int .i64 1] 3)).alloc (.cells #[Value.int IntKind.i64 kd, Value.bool b, Value.int IntKind.i64 m, Value.float FloatKind.f64 f, Value.string tx, Value.string ty, Value.slice ai ni ci, Value.slice af nf cf] 27) := ⟨_, rfl⟩
  have hB0 : Below w.heap.size w W0 := by rw [hW0]; exact (((Below.refl _ _).alloc (Nat.le_refl _) _).alloc (by simp) _).alloc (by simp; omega) _
  have hsz : w.heap.size + 2 < W0.heap.size := by rw [hW0]; simp
  have bN : Boxed W0 (w.heap.size + 1) 3 (.int .i64 1) := by rw [hW0]; have := (Boxed.new (w.alloc (.cells #[Value.int IntKind.i64 kd, Value.bool b, Value.int IntKind.i64 m, Value.float FloatKind.f64 f, Value.string tx, Value.string ty, Value.slice ai ni ci, Value.slice af nf cf] 27)) 3 (.int .i64 1)).alloc (.cells #[Value.int IntKind.i64 kd, Value.bool b, Value.int IntKind.i64 m, Value.float FloatKind.f64 f, Value.string tx, Value.string ty, Value.slice ai ni ci, Value.slice af nf cf] 27); simpa using this
  have rV : W0.rangeAt (w.heap.size + 1 + 1) 0 [Value.int IntKind.i64 kd, Value.bool b, Value.int IntKind.i64 m, Value.float FloatKind.f64 f, Value.string tx, Value.string ty, Value.slice ai ni ci, Value.slice af nf cf] := fun j x hx => by rw [hW0, Nat.zero_add, World.cell?_alloc_at _ _ _ _ (by simp)]; simpa using hx
  rw [← hW0]
  clear hW0
  have hsf2 := hide hsf
  clear hsf
  refine wpIn_rangeFunc_ownH (α := Kid w (kids (.mk kd b m f tx ty its fls))) rfl (by omega) (gf := 71) (lb := #[.pointer (some ⟨w.heap.size + 1 + 1, 0, none⟩)]) rfl trivial (enters_of Try.func71 (by kernel_rfl) rfl)
    (kids_stops Fence.wide (8 - 1) trivial rfl (by omega) (w.heap.size + 1 + 1) w (.mk kd b m f tx ty its fls) _ hv hsm W0 hB0 (by omega) rV) belowK_t (belowK_b (by omega)) (Below.refl _ _) (fun _ => rfl)
    (fun pre W => Boxed W (w.heap.size + 1) 3 (.int .i64 (wrap64 ((1 + ((pre.map Kid.sv).map (fun p => cnt p.2)).sum : Nat) : Int))) ∧ Below w.heap.size w W)
    (fun _ _ _ => False)
    (OwnFrom.and (Own.from (boxed_own _ _ _) _) (ownFrom_below (Nat.le_refl _) (by omega)))
    (fun _ _ _ _ _ hs _ _ => hs)
    ⟨(show Boxed W0 (w.heap.size + 1) 3 (.int .i64 (wrap64 ((1 + 0 : Nat) : Int))) by rw [show wrap64 ((1 + 0 : Nat) : Int) = 1 by unfold wrap64; omega]; exact bN), hB0⟩
    (fun x a' W => ∃ Bx, w.heap.size + 1 < Bx ∧ Bx < W.heap.size ∧ W.rangeAt Bx 0 x.1.2.2 ∧ a' = { tmps := #[.agg #[Value.int IntKind.i64 kd, Value.bool b, Value.int IntKind.i64 m, Value.float FloatKind.f64 f, Value.string tx, Value.string ty, Value.slice ai ni ci, Value.slice af nf cf], .pointer (some ⟨w.heap.size, 0, none⟩), .int .i64 0, .pointer (some ⟨w.heap.size + 1, 0, none⟩), undef, .pointer (some ⟨Bx, 0, none⟩), .agg #[Value.int IntKind.i64 kd, Value.bool b, Value.int IntKind.i64 m, Value.float FloatKind.f64 f, Value.string tx, Value.string ty, Value.slice ai ni ci, Value.slice af nf cf], .func (.func 71) #[] #[.pointer (some ⟨w.heap.size + 1 + 1, 0, none⟩)], .agg #[.string x.1.1.nm, .int .i64 x.1.1.ix, .bool x.1.1.it], .agg x.1.2.2.toArray, undef, undef, undef, undef, undef], defers := [] })
    (fun x a' _ X Y row hs hg hr => by obtain ⟨Bx, h1, h2, h3, h4⟩ := hs; exact ⟨Bx, h1, Nat.lt_of_lt_of_le h2 hg.size, fun j u hu => cell_kept (h3 j u hu) hg (fun r e => (hr r e).2), h4⟩)
    ?assign ?body ?done ?stop
  case assign =>
    rintro l pre x W K ⟨bN1, hB1⟩ hK
    obtain ⟨⟨s, u, us⟩, hu, hm⟩ := x
    have hu' : VlC w u us := hu
    obtain ⟨ukd, ub, um, uf, utx, uty, uits, ufls⟩ := u
    unfold VlC at hu'
    obtain ⟨uai, uni, uci, uaf, unf, ucf, rfl, -⟩ := hu'
    unfold Kid.enc
    have hsf := unhide hsf2
    clear ih hck hv
    gi_wp2
    refine hK _ _ ((KeepsOthers.alloc _ _).from _) ((Below.refl _ W).alloc hB1.size _) ⟨bN1.alloc _, hB1.alloc hB1.size _⟩ ⟨W.heap.size, bN1.lt, by simp, fun j x hx => ?_, rfl⟩
    rw [Nat.zero_add, World.cell?_alloc_at _ _ _ _ rfl]
    simpa using hx
  case body =>
    rintro l pre x a' W hl ⟨r, hr⟩ ⟨bN1, hB1⟩ ⟨Bx, hBx, hBl, hrow, rfl⟩ hlt
    obtain ⟨⟨s, u, us⟩, hu, hm⟩ := x
    have IH := hide (ih (s, u) hm us W.drew (VlC.below hB1.drew _ _ hu))
    have hsum := hide (show (1 + (((pre ++ [⟨(s, u, us), hu, hm⟩] : List (Kid w (kids (.mk kd b m f tx ty its fls)))).map Kid.sv).map (fun p => cnt p.2)).sum : Nat) = (1 + ((pre.map Kid.sv).map (fun p => cnt p.2)).sum) + cnt u by rw [List.map_append, List.map_append, List.sum_append]; show 1 + (_ + (cnt u + 0)) = _; omega)
    have hu' : VlC w u us := hu
    obtain ⟨ukd, ub, um, uf, utx, uty, uits, ufls⟩ := u
    unfold VlC at hu'
    obtain ⟨uai, uni, uci, uaf, unf, ucf, rfl, -⟩ := hu'
    obtain ⟨z0, z1, z2, z3, z4, z5, z6, z7⟩ := Row8.eight hrow
    simp only [Nat.zero_add] at z1 z2 z3 z4 z5 z6 z7
    generalize (1 + ((pre.map Kid.sv).map (fun p => cnt p.2)).sum : Nat) = S at *
    have cN := bN1.cell
    have fN := bN1.frozen
    have hmx : Try.prog.follows .mixedOrders = true := by kernel_rfl
    have lN := bN1.lt
    clear hrow hck ih hv
    gi_wp2
    gi_region_with_o (refine ⟨trivial, ?_⟩; gi_at_call 18; refine (CallsIn.inRound l (callsIn_wide.2 (unhide IH))).mono ?_; rintro e w2 ⟨rfl, b2⟩; have c2 : w2.cell? ⟨w.heap.size + 1, 0, none⟩ = some (.int .i64 (wrap64 (S : Int))) := (b2.cell (p := ⟨w.heap.size + 1, 0, none⟩) lN).trans cN; have f2 : w2.frozen? ⟨w.heap.size + 1, 0, none⟩ = false := (b2.frozen (p := ⟨w.heap.size + 1, 0, none⟩) lN).trans fN)
    all_goals gi_wp2
    all_goals (try go_bits)
    all_goals
      have bW2 : Below W.heap.size W w2 := (Below.refl _ _).drew.trans b2
      have bx2 : Boxed w2 (w.heap.size + 1) 3 (.int .i64 (wrap64 (S : Int))) := (bW2.block _ lN).trans bN1
      refine ⟨(keepsFrom_below bW2).trans ((KeepsOthers.setCell _ _ _).from _), (bW2.mono hB1.size).setCell (p := ⟨w.heap.size + 1, 0, none⟩) (Nat.le_succ _) _, ?_, (hB1.trans (bW2.mono hB1.size)).setCell (p := ⟨w.heap.size + 1, 0, none⟩) (Nat.le_succ _) _⟩
      rw [unhide hsum, Int.natCast_add]
      simp only [wrap_add]
      exact bx2.set _
  case done =>
    rintro D xs W hD hxs ⟨bN1, hB1⟩ hK
    have cN := bN1.cell
    gi_wp2
    refine ⟨by simp, .inl ⟨_, _, rfl, run_takeDeferred hK, ?_⟩⟩
    refine ⟨_, results_tmp rfl _ _ _, ?_, hB1.trans (belowK_b (w := w) (Nat.le_refl _) W D _ _ (by have := hB0.size; omega) hK rfl rfl)⟩
    rw [unhide hck, ← hxs]
    rfl
  case stop =>
    rintro D c pre W _ _ h _
    exact h.elim
theorem count_ok : ∀ v : Vl, Small v → CountAt v := by
  refine Vl.all ?_
  intro kd b n f tx ty its fls hI hF hsm
  have hs := hsm
  unfold Small at hs
  obtain ⟨-, -, -, hsI, hsF⟩ := hs
  exact count_step _ hsm (mem_kids (fun v hv => hI v hv (hsI.all v hv)) (fun q hq => hF q hq (hsF.all q hq)))
end Go.Proofs.Ythpcpminikmcbaa.og
namespace Go.Proofs.Ythpcpminikmcbaa.og
open Go.ChangeShapes Go.WideShapes Go.ChangeAt Go.RowKit Go.Shelf
open vl hiding cB cFl cS cF cI cK cIt
open stp (c3 c3_lt c3_gt c3_eq cB cB_tri St)
attribute [local go_sem] Oper.semAt_some
set_option linter.unusedVariables false
set_option linter.unusedSimpArgs false
def DepthAt (v : Vl) : Prop := ∀ (cs : List Value) (w : World), VlC w v cs → Calls Try.prog 30 #[.agg cs.toArray] w fun e w' => e = .returned (.int .i64 (depW v)) ∧ Below w.heap.size w w'
set_option maxRecDepth 100000 in
set_option maxHeartbeats 4000000 in
theorem depth5 (b : Bool) (m : Int) (f : Nat) (tx ty : ByteArray) (its : Vls) (fls : Fls) (hsm : Small (.mk 5 b m f tx ty its fls)) (ih : ∀ p ∈ kids (.mk 5 b m f tx ty its fls), DepthAt p.2) : DepthAt (.mk 5 b m f tx ty its fls) := by
  intro cs w hv
  have hc0 := hv
  unfold VlC at hc0
  obtain ⟨ai, ni, ci, af, nf, cf, rfl, -⟩ := hc0
  have hck := hide (dep_kids 5 b m f tx ty its fls (by omega))
  have hsf := storeF
  refine (callsIn_wide (n := 8)).1 ?_
  refine callsIn_of_wp_marks Try.func30 rfl trivial ?_ rfl
  simp only [Try.ntmps30, List.size_toArray, List.length_cons, List.length_nil, Nat.reduceAdd, Nat.reduceSub, Array.replicate_succ, Array.replicate_zero, List.push_toArray, List.append_toArray, List.nil_append, List.cons_append]
  gi_wp2_with (refine ⟨trivial, ?_⟩; gi_at_call 37; refine (children_in Fence.wide _ trivial rfl _ _).mono ?_; rintro e w' ⟨rfl, rfl⟩)
  obtain ⟨W0, hW0⟩ : ∃ W0, W0 = ((w.alloc (.cells #[Value.int IntKind.i64 5, Value.bool b, Value.int IntKind.i64 m, Value.float FloatKind.f64 f, Value.string tx, Value.string ty, Value.slice ai ni ci, Value.slice af nf cf] 27)).alloc (.cells #[.int .i64 0] 3)).alloc (.cells #[Value.int IntKind.i64 5, Value.bool b, Value.int IntKind.i64 m, Value.float FloatKind.f64 f, Value.string tx, Value.string ty, Value.slice ai ni ci, Value.slice af nf cf] 27) := ⟨_, rfl⟩
  have hB0 : Below w.heap.size w W0 := by rw [hW0]; exact (((Below.refl _ _).alloc (Nat.le_refl _) _).alloc (by simp) _).alloc (by simp; omega) _
  have hsz : w.heap.size + 2 < W0.heap.size := by rw [hW0]; simp
  have bN : Boxed W0 (w.heap.size + 1) 3 (.int .i64 0) := by rw [hW0]; have := (Boxed.new (w.alloc (.cells #[Value.int IntKind.i64 5, Value.bool b, Value.int IntKind.i64 m, Value.float FloatKind.f64 f, Value.string tx, Value.string ty, Value.slice ai ni ci, Value.slice af nf cf] 27)) 3 (.int .i64 0)).alloc (.cells #[Value.int IntKind.i64 5, Value.bool b, Value.int IntKind.i64 m, Value.float FloatKind.f64 f, Value.string tx, Value.string ty, Value.slice ai ni ci, Value.slice af nf cf] 27); simpa using this
  have rV : W0.rangeAt (w.heap.size + 1 + 1) 0 [Value.int IntKind.i64 5, Value.bool b, Value.int IntKind.i64 m, Value.float FloatKind.f64 f, Value.string tx, Value.string ty, Value.slice ai ni ci, Value.slice af nf cf] := fun j x hx => by rw [hW0, Nat.zero_add, World.cell?_alloc_at _ _ _ _ (by simp)]; simpa using hx
  rw [← hW0]
  clear hW0
  have hsf2 := hide hsf
  clear hsf
  refine wpIn_rangeFunc_ownH (α := Kid w (kids (.mk 5 b m f tx ty its fls))) rfl (by omega) (gf := 71) (lb := #[.pointer (some ⟨w.heap.size + 1 + 1, 0, none⟩)]) rfl trivial (enters_of Try.func71 (by kernel_rfl) rfl)
    (kids_stops Fence.wide (8 - 1) trivial rfl (by omega) (w.heap.size + 1 + 1) w (.mk 5 b m f tx ty its fls) _ hv hsm W0 hB0 (by omega) rV) belowK_t (belowK_b (by omega)) (Below.refl _ _) (fun _ => rfl)
    (fun pre W => Boxed W (w.heap.size + 1) 3 (.int .i64 (((pre.map Kid.sv).map (fun p => depW p.2)).foldl max 0)) ∧ Below w.heap.size w W)
    (fun _ _ _ => False)
    (OwnFrom.and (Own.from (boxed_own _ _ _) _) (ownFrom_below (Nat.le_refl _) (by omega)))
    (fun _ _ _ _ _ hs _ _ => hs)
    ⟨bN, hB0⟩
    (fun x a' W => ∃ Bx, w.heap.size + 1 < Bx ∧ Bx < W.heap.size ∧ W.rangeAt Bx 0 x.1.2.2 ∧ a' = { tmps := #[.agg #[Value.int IntKind.i64 5, Value.bool b, Value.int IntKind.i64 m, Value.float FloatKind.f64 f, Value.string tx, Value.string ty, Value.slice ai ni ci, Value.slice af nf cf], .pointer (some ⟨w.heap.size, 0, none⟩), .int .i64 0, .pointer (some ⟨w.heap.size + 1, 0, none⟩), undef, .pointer (some ⟨Bx, 0, none⟩), .pointer (some ⟨w.heap.size, 0, none⟩), .int .i64 5, .bool false, .bool false, undef, undef, undef, .bool false, .agg #[Value.int IntKind.i64 5, Value.bool b, Value.int IntKind.i64 m, Value.float FloatKind.f64 f, Value.string tx, Value.string ty, Value.slice ai ni ci, Value.slice af nf cf], .func (.func 71) #[] #[.pointer (some ⟨w.heap.size + 1 + 1, 0, none⟩)], .agg #[.string x.1.1.nm, .int .i64 x.1.1.ix, .bool x.1.1.it], .agg x.1.2.2.toArray, undef, undef, undef, undef, undef, undef], defers := [] })
    (fun x a' _ X Y row hs hg hr => by obtain ⟨Bx, h1, h2, h3, h4⟩ := hs; exact ⟨Bx, h1, Nat.lt_of_lt_of_le h2 hg.size, fun j u hu => cell_kept (h3 j u hu) hg (fun r e => (hr r e).2), h4⟩)
    ?assign ?body ?done ?stop
  case assign =>
    rintro l pre x W K ⟨bN1, hB1⟩ hK
    obtain ⟨⟨s, u, us⟩, hu, hm⟩ := x
    have hu' : VlC w u us := hu
    obtain ⟨ukd, ub, um, uf, utx, uty, uits, ufls⟩ := u
    unfold VlC at hu'
    obtain ⟨uai, uni, uci, uaf, unf, ucf, rfl, -⟩ := hu'
    unfold Kid.enc
    have hsf := unhide hsf2
    clear ih hck hv
    gi_wp2
    refine hK _ _ ((KeepsOthers.alloc _ _).from _) ((Below.refl _ W).alloc hB1.size _) ⟨bN1.alloc _, hB1.alloc hB1.size _⟩ ⟨W.heap.size, bN1.lt, by simp, fun j x hx => ?_, rfl⟩
    rw [Nat.zero_add, World.cell?_alloc_at _ _ _ _ rfl]
    simpa using hx
  case body =>
    rintro l pre x a' W hl ⟨r, hr⟩ ⟨bN1, hB1⟩ ⟨Bx, hBx, hBl, hrow, rfl⟩ hlt
    obtain ⟨⟨s, u, us⟩, hu, hm⟩ := x
    have IH := hide (ih (s, u) hm us W.drew (VlC.below hB1.drew _ _ hu))
    have hsum := hide (show (((pre ++ [⟨(s, u, us), hu, hm⟩] : List (Kid w (kids (.mk 5 b m f tx ty its fls)))).map Kid.sv).map (fun p => depW p.2)).foldl max 0 = max (((pre.map Kid.sv).map (fun p => depW p.2)).foldl max 0) (depW u) by rw [List.map_append, List.map_append, List.foldl_append]; rfl)
    have hu' : VlC w u us := hu
    obtain ⟨ukd, ub, um, uf, utx, uty, uits, ufls⟩ := u
    unfold VlC at hu'
    obtain ⟨uai, uni, uci, uaf, unf, ucf, rfl, -⟩ := hu'
    obtain ⟨z0, z1, z2, z3, z4, z5, z6, z7⟩ := Row8.eight hrow
    simp only [Nat.zero_add] at z1 z2 z3 z4 z5 z6 z7
    generalize ((pre.map Kid.sv).map (fun p => depW p.2)).foldl max 0 = S at *
    have cN := bN1.cell
    have fN := bN1.frozen
    have hmx : Try.prog.follows .mixedOrders = true := by kernel_rfl
    have lN := bN1.lt
    clear hrow hck ih hv
    gi_wp2
    gi_region_with_o (refine ⟨trivial, ?_⟩; gi_at_call 30; refine (CallsIn.inRound l (callsIn_wide.2 (unhide IH))).mono ?_; rintro e w2 ⟨rfl, b2⟩; have c2 : w2.cell? ⟨w.heap.size + 1, 0, none⟩ = some (.int .i64 S) := (b2.cell (p := ⟨w.heap.size + 1, 0, none⟩) lN).trans cN; have f2 : w2.frozen? ⟨w.heap.size + 1, 0, none⟩ = false := (b2.frozen (p := ⟨w.heap.size + 1, 0, none⟩) lN).trans fN)
    all_goals gi_wp2
    all_goals (try go_bits)
    all_goals
      have bW2 : Below W.heap.size W w2 := (Below.refl _ _).drew.trans b2
      have bx2 : Boxed w2 (w.heap.size + 1) 3 (.int .i64 S) := (bW2.block _ lN).trans bN1
      refine ⟨(keepsFrom_below bW2).trans ((KeepsOthers.setCell _ _ _).from _), (bW2.mono hB1.size).setCell (p := ⟨w.heap.size + 1, 0, none⟩) (Nat.le_succ _) _, ?_, (hB1.trans (bW2.mono hB1.size)).setCell (p := ⟨w.heap.size + 1, 0, none⟩) (Nat.le_succ _) _⟩
      rw [unhide hsum]
      exact bx2.set _
  case done =>
    rintro D xs W hD hxs ⟨bN1, hB1⟩ hK
    have cN := bN1.cell
    gi_wp2
    refine ⟨by simp, .inl ⟨_, _, rfl, run_takeDeferred hK, ?_⟩⟩
    refine ⟨_, results_tmp rfl _ _ _, ?_, hB1.trans (belowK_b (w := w) (Nat.le_refl _) W D _ _ (by have := hB0.size; omega) hK rfl rfl)⟩
    rw [unhide hck, ← hxs]
    rfl
  case stop =>
    rintro D c pre W _ _ h _
    exact h.elim
set_option maxRecDepth 100000 in
set_option maxHeartbeats 4000000 in
theorem depth6 (b : Bool) (m : Int) (f : Nat) (tx ty : ByteArray) (its : Vls) (fls : Fls) (hsm : Small (.mk 6 b m f tx ty its fls)) (ih : ∀ p ∈ kids (.mk 6 b m f tx ty its fls), DepthAt p.2) : DepthAt (.mk 6 b m f tx ty its fls) := by
  intro cs w hv
  have hc0 := hv
  unfold VlC at hc0
  obtain ⟨ai, ni, ci, af, nf, cf, rfl, -⟩ := hc0
  have hck := hide (dep_kids 6 b m f tx ty its fls (by omega))
  have hsf := storeF
  refine (callsIn_wide (n := 8)).1 ?_
  refine callsIn_of_wp_marks Try.func30 rfl trivial ?_ rfl
  simp only [Try.ntmps30, List.size_toArray, List.length_cons, List.length_nil, Nat.reduceAdd, Nat.reduceSub, Array.replicate_succ, Array.replicate_zero, List.push_toArray, List.append_toArray, List.nil_append, List.cons_append]
  gi_wp2_with (refine ⟨trivial, ?_⟩; gi_at_call 37; refine (children_in Fence.wide _ trivial rfl _ _).mono ?_; rintro e w' ⟨rfl, rfl⟩)
  obtain ⟨W0, hW0⟩ : ∃ W0, W0 = ((w.alloc (.cells #[Value.int IntKind.i64 6, Value.bool b, Value.int IntKind.i64 m, Value.float FloatKind.f64 f, Value.string tx, Value.string ty, Value.slice ai ni ci, Value.slice af nf cf] 27)).alloc (.cells #[.int .i64 0] 3)).alloc (.cells #[Value.int IntKind.i64 6, Value.bool b, Value.int IntKind.i64 m, Value.float FloatKind.f64 f, Value.string tx, Value.string ty, Value.slice ai ni ci, Value.slice af nf cf] 27) := ⟨_, rfl⟩
  have hB0 : Below w.heap.size w W0 := by rw [hW0]; exact (((Below.refl _ _).alloc (Nat.le_refl _) _).alloc (by simp) _).alloc (by simp; omega) _
  have hsz : w.heap.size + 2 < W0.heap.size := by rw [hW0]; simp
  have bN : Boxed W0 (w.heap.size + 1) 3 (.int .i64 0) := by rw [hW0]; have := (Boxed.new (w.alloc (.cells #[Value.int IntKind.i64 6, Value.bool b, Value.int IntKind.i64 m, Value.float FloatKind.f64 f, Value.string tx, Value.string ty, Value.slice ai ni ci, Value.slice af nf cf] 27)) 3 (.int .i64 0)).alloc (.cells #[Value.int IntKind.i64 6, Value.bool b, Value.int IntKind.i64 m, Value.float FloatKind.f64 f, Value.string tx, Value.string ty, Value.slice ai ni ci, Value.slice af nf cf] 27); simpa using this
  have rV : W0.rangeAt (w.heap.size + 1 + 1) 0 [Value.int IntKind.i64 6, Value.bool b, Value.int IntKind.i64 m, Value.float FloatKind.f64 f, Value.string tx, Value.string ty, Value.slice ai ni ci, Value.slice af nf cf] := fun j x hx => by rw [hW0, Nat.zero_add, World.cell?_alloc_at _ _ _ _ (by simp)]; simpa using hx
  rw [← hW0]
  clear hW0
  have hsf2 := hide hsf
  clear hsf
  refine wpIn_rangeFunc_ownH (α := Kid w (kids (.mk 6 b m f tx ty its fls))) rfl (by omega) (gf := 71) (lb := #[.pointer (some ⟨w.heap.size + 1 + 1, 0, none⟩)]) rfl trivial (enters_of Try.func71 (by kernel_rfl) rfl)
    (kids_stops Fence.wide (8 - 1) trivial rfl (by omega) (w.heap.size + 1 + 1) w (.mk 6 b m f tx ty its fls) _ hv hsm W0 hB0 (by omega) rV) belowK_t (belowK_b (by omega)) (Below.refl _ _) (fun _ => rfl)
    (fun pre W => Boxed W (w.heap.size + 1) 3 (.int .i64 (((pre.map Kid.sv).map (fun p => depW p.2)).foldl max 0)) ∧ Below w.heap.size w W)
    (fun _ _ _ => False)
    (OwnFrom.and (Own.from (boxed_own _ _ _) _) (ownFrom_below (Nat.le_refl _) (by omega)))
    (fun _ _ _ _ _ hs _ _ => hs)
    ⟨bN, hB0⟩
    (fun x a' W => ∃ Bx, w.heap.size + 1 < Bx ∧ Bx < W.heap.size ∧ W.rangeAt Bx 0 x.1.2.2 ∧ a' = { tmps := #[.agg #[Value.int IntKind.i64 6, Value.bool b, Value.int IntKind.i64 m, Value.float FloatKind.f64 f, Value.string tx, Value.string ty, Value.slice ai ni ci, Value.slice af nf cf], .pointer (some ⟨w.heap.size, 0, none⟩), .int .i64 0, .pointer (some ⟨w.heap.size + 1, 0, none⟩), undef, .pointer (some ⟨Bx, 0, none⟩), .pointer (some ⟨w.heap.size, 0, none⟩), .int .i64 6, .bool true, .bool true, .pointer (some ⟨w.heap.size, 0, none⟩), .int .i64 6, .bool false, .bool false, .agg #[Value.int IntKind.i64 6, Value.bool b, Value.int IntKind.i64 m, Value.float FloatKind.f64 f, Value.string tx, Value.string ty, Value.slice ai ni ci, Value.slice af nf cf], .func (.func 71) #[] #[.pointer (some ⟨w.heap.size + 1 + 1, 0, none⟩)], .agg #[.string x.1.1.nm, .int .i64 x.1.1.ix, .bool x.1.1.it], .agg x.1.2.2.toArray, undef, undef, undef, undef, undef, undef], defers := [] })
    (fun x a' _ X Y row hs hg hr => by obtain ⟨Bx, h1, h2, h3, h4⟩ := hs; exact ⟨Bx, h1, Nat.lt_of_lt_of_le h2 hg.size, fun j u hu => cell_kept (h3 j u hu) hg (fun r e => (hr r e).2), h4⟩)
    ?assign ?body ?done ?stop
  case assign =>
    rintro l pre x W K ⟨bN1, hB1⟩ hK
    obtain ⟨⟨s, u, us⟩, hu, hm⟩ := x
    have hu' : VlC w u us := hu
    obtain ⟨ukd, ub, um, uf, utx, uty, uits, ufls⟩ := u
    unfold VlC at hu'
    obtain ⟨uai, uni, uci, uaf, unf, ucf, rfl, -⟩ := hu'
    unfold Kid.enc
    have hsf := unhide hsf2
    clear ih hck hv
    gi_wp2
    refine hK _ _ ((KeepsOthers.alloc _ _).from _) ((Below.refl _ W).alloc hB1.size _) ⟨bN1.alloc _, hB1.alloc hB1.size _⟩ ⟨W.heap.size, bN1.lt, by simp, fun j x hx => ?_, rfl⟩
    rw [Nat.zero_add, World.cell?_alloc_at _ _ _ _ rfl]
    simpa using hx
  case body =>
    rintro l pre x a' W hl ⟨r, hr⟩ ⟨bN1, hB1⟩ ⟨Bx, hBx, hBl, hrow, rfl⟩ hlt
    obtain ⟨⟨s, u, us⟩, hu, hm⟩ := x
    have IH := hide (ih (s, u) hm us W.drew (VlC.below hB1.drew _ _ hu))
    have hsum := hide (show (((pre ++ [⟨(s, u, us), hu, hm⟩] : List (Kid w (kids (.mk 6 b m f tx ty its fls)))).map Kid.sv).map (fun p => depW p.2)).foldl max 0 = max (((pre.map Kid.sv).map (fun p => depW p.2)).foldl max 0) (depW u) by rw [List.map_append, List.map_append, List.foldl_append]; rfl)
    have hu' : VlC w u us := hu
    obtain ⟨ukd, ub, um, uf, utx, uty, uits, ufls⟩ := u
    unfold VlC at hu'
    obtain ⟨uai, uni, uci, uaf, unf, ucf, rfl, -⟩ := hu'
    obtain ⟨z0, z1, z2, z3, z4, z5, z6, z7⟩ := Row8.eight hrow
    simp only [Nat.zero_add] at z1 z2 z3 z4 z5 z6 z7
    generalize ((pre.map Kid.sv).map (fun p => depW p.2)).foldl max 0 = S at *
    have cN := bN1.cell
    have fN := bN1.frozen
    have hmx : Try.prog.follows .mixedOrders = true := by kernel_rfl
    have lN := bN1.lt
    clear hrow hck ih hv
    gi_wp2
    gi_region_with_o (refine ⟨trivial, ?_⟩; gi_at_call 30; refine (CallsIn.inRound l (callsIn_wide.2 (unhide IH))).mono ?_; rintro e w2 ⟨rfl, b2⟩; have c2 : w2.cell? ⟨w.heap.size + 1, 0, none⟩ = some (.int .i64 S) := (b2.cell (p := ⟨w.heap.size + 1, 0, none⟩) lN).trans cN; have f2 : w2.frozen? ⟨w.heap.size + 1, 0, none⟩ = false := (b2.frozen (p := ⟨w.heap.size + 1, 0, none⟩) lN).trans fN)
    all_goals gi_wp2
    all_goals (try go_bits)
    all_goals
      have bW2 : Below W.heap.size W w2 := (Below.refl _ _).drew.trans b2
      have bx2 : Boxed w2 (w.heap.size + 1) 3 (.int .i64 S) := (bW2.block _ lN).trans bN1
      refine ⟨(keepsFrom_below bW2).trans ((KeepsOthers.setCell _ _ _).from _), (bW2.mono hB1.size).setCell (p := ⟨w.heap.size + 1, 0, none⟩) (Nat.le_succ _) _, ?_, (hB1.trans (bW2.mono hB1.size)).setCell (p := ⟨w.heap.size + 1, 0, none⟩) (Nat.le_succ _) _⟩
      rw [unhide hsum]
      exact bx2.set _
  case done =>
    rintro D xs W hD hxs ⟨bN1, hB1⟩ hK
    have cN := bN1.cell
    gi_wp2
    refine ⟨by simp, .inl ⟨_, _, rfl, run_takeDeferred hK, ?_⟩⟩
    refine ⟨_, results_tmp rfl _ _ _, ?_, hB1.trans (belowK_b (w := w) (Nat.le_refl _) W D _ _ (by have := hB0.size; omega) hK rfl rfl)⟩
    rw [unhide hck, ← hxs]
    rfl
  case stop =>
    rintro D c pre W _ _ h _
    exact h.elim
theorem depth0 (kd : Int) (b : Bool) (m : Int) (f : Nat) (tx ty : ByteArray) (its : Vls) (fls : Fls) (h5 : kd ≠ 5) (h6 : kd ≠ 6) : DepthAt (.mk kd b m f tx ty its fls) := by
  intro cs w hv
  unfold VlC at hv
  obtain ⟨ai, ni, ci, af, nf, cf, rfl, -⟩ := hv
  have hd := hide (show depW (.mk kd b m f tx ty its fls) = 0 by rw [depW, if_neg h5, if_neg h6])
  have q5 : (kd != 5) = true := by simpa using h5
  have q6 : (kd != 6) = true := by simpa using h6
  go_enter Try.func30, Try.ntmps30
  go_wp2
  go_ret
  exact ⟨by rw [unhide hd]; rfl, (Below.refl _ _).alloc (Nat.le_refl _) _⟩
theorem depth_ok : ∀ v : Vl, Small v → DepthAt v := by
  refine Vl.all ?_
  intro kd b n f tx ty its fls hI hF hsm
  have hs := hsm
  unfold Small at hs
  obtain ⟨-, -, -, hsI, hsF⟩ := hs
  have ih : ∀ p ∈ kids (.mk kd b n f tx ty its fls), DepthAt p.2 := mem_kids (fun v hv => hI v hv (hsI.all v hv)) (fun q hq => hF q hq (hsF.all q hq))
  by_cases h5 : kd = 5
  · subst h5; exact depth5 _ _ _ _ _ _ _ hsm ih
  · by_cases h6 : kd = 6
    · subst h6; exact depth6 _ _ _ _ _ _ _ hsm ih
    · exact depth0 _ _ _ _ _ _ _ _ h5 h6
end Go.Proofs.Ythpcpminikmcbaa.og
namespace Go.Proofs.Ythpcpminikmcbaa.vl
open Go.ChangeShapes Go.WideShapes Go.ChangeAt Go.RowKit
open stp (St Pth St3)
set_option linter.unusedVariables false
set_option linter.unusedSimpArgs false
set_option maxHeartbeats 6000000 in
set_option maxRecDepth 6000 in
theorem two_ok (w : World) : Calls Try.prog 27 #[] w fun e w' => Below w.heap.size w w' ∧ ∃ b, e = .returned (.agg (twoC b).toArray) ∧ VlC w' twoV (twoC b) := by
  have hsf := storeF
  obtain ⟨W, eW⟩ : ∃ W, W = (((w.alloc (.cells #[.int .i64 0, .bool false, .int .i64 0, .float .f64 0, .string { data := #[] }, .string { data := #[] }, .slice none 0 0, .slice none 0 0] 27)).alloc (.cells #[.string { data := #[98] }, .int .i64 0, .bool false, .int .i64 0, .float .f64 0, .string { data := #[] }, .string { data := #[] }, .slice none 0 0, .slice none 0 0] 69)).alloc (.cells #[.int .i64 6, .bool false, .int .i64 0, .float .f64 0, .string { data := #[] }, .string { data := #[] }, .slice none 0 0, .slice (some ⟨w.heap.size + 1, 0, none⟩) 1 1] 27)) := ⟨_, rfl⟩
  have bW : Below w.heap.size w W := by rw [eW]; exact (((Below.refl _ _).alloc (Nat.le_refl _) _).alloc (by simp) _).alloc (by simp; omega) _
  have hsz : w.heap.size + 3 ≤ W.heap.size := by rw [eW]; simp
  have hth : W.there w.heap.size 0 8 := by rw [eW]; exact World.there_alloc (World.there_alloc (there_new rfl) _) _
  have hmem : W.rangeAt (w.heap.size + 1) 0 (Value.string { data := #[98] } :: z8) := fun j u hu => by
    rw [Nat.zero_add, eW, World.cell?_alloc_past _ _ _ (by simp), World.cell?_alloc_at _ _ _ _ (by simp)]; simpa [z8] using hu
  have hinn : W.rangeAt (w.heap.size + 1 + 1) 0 (innerC (w.heap.size + 1)) := fun j u hu => by
    rw [Nat.zero_add, eW, World.cell?_alloc_at _ _ _ _ (by simp)]; simpa [innerC] using hu
  have vin := innerV_at hmem
  have EW := hide eW
  clear eW
  go_enter Try.func27, Try.ntmps27
  go_wp2_with fail
  rw [← unhide EW]
  clear EW hsf
  have hS0 : Below W.heap.size W { W with drawn := W.drawn + 1 } := (Below.refl _ _).drew
  refine wp_region_noPanic ?_
  refine wp_region_held (S := fun w' => Below W.heap.size W w') mixed ?_
  refine wpAnyH_take (i := 1) rfl (by kernel_rfl) (by kernel_rfl) (by kernel_rfl) (fun _ _ _ h => h) (yieldsIf_load_mid (by rfl) 27 _ (by rfl) (w.heap.size + 1 + 1) 0 (by rfl) (innerC (w.heap.size + 1)) _ (fun w' hw' => Row8.below hinn hw') Try.underlying27 (by rfl) (by simp [innerC, infoV])) hS0 ?_
  simp only [List.getElem_toArray, List.getElem_cons_zero, List.getElem_cons_succ, Act.put, List.setIfInBounds_toArray, List.set_cons_zero, List.set_cons_succ]
  refine rgn.two (i := 0) (j := 4) _ _ rfl rfl (by kernel_rfl) (by rfl) (by rfl) ?_ ?_
  · simp only [List.getElem_toArray, List.getElem_cons_zero, List.getElem_cons_succ, Act.put, List.setIfInBounds_toArray, List.set_cons_zero, List.set_cons_succ]
    go_wp2_with fail
    refine (num_ok 1 _).mono ?_
    rintro e w1 ⟨bw1, rfl⟩
    have hS0 : Below W.heap.size W w1 := hS0.trans bw1
    have hSW1 := hS0
    refine ⟨hS0, ?_⟩
    refine rgn.two (i := 2) (j := 4) _ _ rfl rfl (by kernel_rfl) (by rfl) (by rfl) ?_ ?_
    · simp only [List.getElem_toArray, List.getElem_cons_zero, List.getElem_cons_succ, Act.put, List.setIfInBounds_toArray, List.set_cons_zero, List.set_cons_succ]
      refine wpO_build2 24 _ _ (by rfl) (.agg (numC 1).toArray) (.agg (innerC (w.heap.size + 1)).toArray) _ (by rfl) (by rfl) (build2V (numV 1 rfl W) vin _) ?_
      obtain ⟨X1, eX1⟩ : ∃ X1, X1 = w1.alloc (.cells (numC 1 ++ innerC (w.heap.size + 1)).toArray 27) := ⟨_, rfl⟩
      have rowX1 : X1.rangeAt w1.heap.size 0 (numC 1 ++ innerC (w.heap.size + 1)) := by rw [eX1]; intro j u hu; rw [Nat.zero_add, World.cell?_alloc_at _ _ _ _ rfl]; simpa using hu
      have sX1 : w1.heap.size + 1 ≤ X1.heap.size := by rw [eX1]; simp
      have bX1 : Below w1.heap.size w1 X1 := by rw [eX1]; exact (Below.refl _ _).alloc (Nat.le_refl _) _
      rw [← eX1]
      clear eX1
      have hS0 : Below W.heap.size W X1 := hS0.trans (bX1.mono hS0.size)
      refine ⟨hS0, ?_⟩
      simp only [List.getElem_toArray, List.getElem_cons_zero, List.getElem_cons_succ, Act.put, List.setIfInBounds_toArray, List.set_cons_zero, List.set_cons_succ]
      refine rgn.take (i := 3) _ (.agg (listC w1.heap.size).toArray) rfl (by kernel_rfl) (by kernel_rfl) (by kernel_rfl) (fun _ _ _ h => h) (by rfl) hS0 (fun w' hw' => by simp only [listC]; go_simp) ?_
      simp only [List.getElem_toArray, List.getElem_cons_zero, List.getElem_cons_succ, Act.put, List.setIfInBounds_toArray, List.set_cons_zero, List.set_cons_succ]
      refine rgn.one (i := 4) _ rfl (by kernel_rfl) (by rfl) ?_
      simp only [List.getElem_toArray, List.getElem_cons_zero, List.getElem_cons_succ, Act.put, List.setIfInBounds_toArray, List.set_cons_zero, List.set_cons_succ]
      refine wpO_alloc 27 (by rfl) _ (allocV _) ?_
      obtain ⟨X2, eX2⟩ : ∃ X2, X2 = X1.alloc (.cells #[.int .i64 0, .bool false, .int .i64 0, .float .f64 0, .string { data := #[] }, .string { data := #[] }, .slice none 0 0, .slice none 0 0] 27) := ⟨_, rfl⟩
      have thX2 : X2.there X1.heap.size 0 8 := by rw [eX2]; exact there_new rfl
      have sX2 : X1.heap.size + 1 ≤ X2.heap.size := by rw [eX2]; simp
      have bX2 : Below X1.heap.size X1 X2 := by rw [eX2]; exact (Below.refl _ _).alloc (Nat.le_refl _) _
      rw [← eX2]
      clear eX2
      have hS0 : Below W.heap.size W X2 := hS0.trans (bX2.mono hS0.size)
      refine ⟨hS0, ?_⟩
      simp only [List.getElem_toArray, List.getElem_cons_zero, List.getElem_cons_succ, Act.put, List.setIfInBounds_toArray, List.set_cons_zero, List.set_cons_succ]
      have thL : X2.there X1.heap.size 0 (listC w1.heap.size).toArray.size := thX2
      have rowS := Row8.below rowX1 bX2
      have hne : w1.heap.size ≠ X1.heap.size := by omega
      have hLs : X1.heap.size < X2.heap.size := by omega
      have hLlo : W.heap.size ≤ X1.heap.size := by have := bw1.size; have h0 := bX1.size; have h1 := hSW1.size; omega
      refine rgn.one (i := 5) _ rfl (by kernel_rfl) (by rfl) ?_
      simp only [List.getElem_toArray, List.getElem_cons_zero, List.getElem_cons_succ, Act.put, List.setIfInBounds_toArray, List.set_cons_zero, List.set_cons_succ]
      refine wp_store_mid 27 _ _ (by rfl) X1.heap.size 0 (listC w1.heap.size).toArray (by rfl) (by rfl) thL (by simp [listC, infoV]) (by simp [listC, Value.oneCell']) ?_
      obtain ⟨L, eL⟩ : ∃ L, L = X2.setCells X1.heap.size 0 (listC w1.heap.size) := ⟨_, rfl⟩
      have t1 : Below W.heap.size W L := by rw [eL]; exact below_setCells _ _ _ _ hS0 hLlo
      have t2 : L.rangeAt X1.heap.size 0 (listC w1.heap.size) := by rw [eL]; exact World.rangeAt_setCells_same _ _ _ _ thL
      have t3 : L.rangeAt w1.heap.size 0 (numC 1 ++ innerC (w.heap.size + 1)) := by
        rw [eL]
        intro j u hu
        rw [World.cell?_setCells_out _ _ _ _ _ (fun e _ => absurd (show w1.heap.size = X1.heap.size from e) hne)]
        exact rowS j u hu
      have t4 : X1.heap.size < L.heap.size := by rw [eL, size_setCells]; exact hLs
      rw [show X2.setCells X1.heap.size 0 (listC w1.heap.size).toArray.toList = L from eL.symm]
      refine ⟨t1, ?_⟩
      refine wpAnyH_done (by kernel_rfl) ?_ _
      refine NoPanic.normal ?_
      simp only [List.getElem_toArray, List.getElem_cons_zero, List.getElem_cons_succ, Act.put, List.setIfInBounds_toArray, List.set_cons_zero, List.set_cons_succ]
      have hSlo : w.heap.size < w1.heap.size := by have := hSW1.size; omega
      have hShi : w1.heap.size < L.heap.size := by omega
      have hLB : w.heap.size < X1.heap.size := by omega
      generalize w1.heap.size = SBB at *
      generalize X1.heap.size = LBB at *
      clear eL
      have vl3 := listV_at t3 (VlC.below t1 _ _ vin)
      clear hS0 thL rowS hne hLs hLlo
      go_wp2_with fail
      have hS0 : ({ L with drawn := L.drawn + 1 } : World).rangeAt LBB 0 (listC SBB) := t2
      refine wp_region_noPanic ?_
      refine wp_region_held (S := fun w' => w'.rangeAt LBB 0 (listC SBB)) mixed ?_
      refine wpAnyH_take (i := 0) rfl (by kernel_rfl) (by kernel_rfl) (by kernel_rfl) (fun _ _ _ h => h) (yieldsIf_load_mid (by rfl) 27 _ (by rfl) LBB 0 (by rfl) (listC SBB) _ (fun w' hw' => hw') Try.underlying27 (by rfl) (by simp [listC, infoV])) hS0 ?_
      simp only [List.getElem_toArray, List.getElem_cons_zero, List.getElem_cons_succ, Act.put, List.setIfInBounds_toArray, List.set_cons_zero, List.set_cons_succ]
      refine rgn.take (i := 1) _ (.agg (Value.string { data := #[97] } :: listC SBB).toArray) rfl (by kernel_rfl) (by kernel_rfl) (by kernel_rfl) (fun _ _ _ h => h) (by rfl) hS0 (fun w' hw' => by clear hw'; simp only [listC]; go_simp) ?_
      simp only [List.getElem_toArray, List.getElem_cons_zero, List.getElem_cons_succ, Act.put, List.setIfInBounds_toArray, List.set_cons_zero, List.set_cons_succ]
      refine rgn.one (i := 2) _ rfl (by kernel_rfl) (by rfl) ?_
      simp only [List.getElem_toArray, List.getElem_cons_zero, List.getElem_cons_succ, Act.put, List.setIfInBounds_toArray, List.set_cons_zero, List.set_cons_succ]
      go_wp2_with fail
      refine (text_ok { data := #[120] } _).mono ?_
      rintro e w5 ⟨b5, rfl⟩
      have c5 : Below L.heap.size L w5 := (Below.refl _ _).drew.trans b5
      have hS0 : w5.rangeAt LBB 0 (listC SBB) := Row8.below t2 c5
      refine ⟨hS0, ?_⟩
      refine rgn.take (i := 3) _ (.agg (Value.string { data := #[99] } :: txtC { data := #[120] }).toArray) rfl (by kernel_rfl) (by kernel_rfl) (by kernel_rfl) (fun _ _ _ h => h) (by rfl) hS0 (fun w' hw' => by clear hw'; simp only [txtC]; go_simp) ?_
      simp only [List.getElem_toArray, List.getElem_cons_zero, List.getElem_cons_succ, Act.put, List.setIfInBounds_toArray, List.set_cons_zero, List.set_cons_succ]
      refine rgn.one (i := 4) _ rfl (by kernel_rfl) (by rfl) ?_
      simp only [List.getElem_toArray, List.getElem_cons_zero, List.getElem_cons_succ, Act.put, List.setIfInBounds_toArray, List.set_cons_zero, List.set_cons_succ]
      refine wpO_build2 25 _ _ (by rfl) (.agg (Value.string { data := #[97] } :: listC SBB).toArray) (.agg (Value.string { data := #[99] } :: txtC { data := #[120] }).toArray) _ (by rfl) (by rfl) (build2M { data := #[97] } { data := #[99] } vl3 (txtV { data := #[120] } (by decide) L) _) ?_
      obtain ⟨Y, eY⟩ : ∃ Y, Y = w5.alloc (.cells ((Value.string { data := #[97] } :: listC SBB) ++ (Value.string { data := #[99] } :: txtC { data := #[120] })).toArray 69) := ⟨_, rfl⟩
      have rowY : Y.rangeAt w5.heap.size 0 ((Value.string { data := #[97] } :: listC SBB) ++ (Value.string { data := #[99] } :: txtC { data := #[120] })) := by rw [eY]; intro j u hu; rw [Nat.zero_add, World.cell?_alloc_at _ _ _ _ rfl]; simpa using hu
      have bY : Below w5.heap.size w5 Y := by rw [eY]; exact (Below.refl _ _).alloc (Nat.le_refl _) _
      have sY : w5.heap.size + 1 ≤ Y.heap.size := by rw [eY]; simp
      rw [← eY]
      clear eY
      have hS0 : Y.rangeAt LBB 0 (listC SBB) := Row8.below hS0 bY
      refine ⟨hS0, ?_⟩
      simp only [List.getElem_toArray, List.getElem_cons_zero, List.getElem_cons_succ, Act.put, List.setIfInBounds_toArray, List.set_cons_zero, List.set_cons_succ]
      refine rgn.take (i := 5) _ (.agg (twoC w5.heap.size).toArray) rfl (by kernel_rfl) (by kernel_rfl) (by kernel_rfl) (fun _ _ _ h => h) (by rfl) hS0 (fun w' hw' => by clear hw'; simp only [twoC]; go_simp) ?_
      simp only [List.getElem_toArray, List.getElem_cons_zero, List.getElem_cons_succ, Act.put, List.setIfInBounds_toArray, List.set_cons_zero, List.set_cons_succ]
      refine rgn.one (i := 6) _ rfl (by kernel_rfl) (by rfl) ?_
      simp only [List.getElem_toArray, List.getElem_cons_zero, List.getElem_cons_succ, Act.put, List.setIfInBounds_toArray, List.set_cons_zero, List.set_cons_succ]
      have sW := t1.size
      have s5 := c5.size
      have thR : Y.there w.heap.size 0 (twoC w5.heap.size).toArray.size := there_below (there_below (there_below hth t1 (by omega)) c5 (by omega)) bY (by omega)
      have i9 : (Try.prog.info? 27).map (·.size) = some (twoC w5.heap.size).toArray.size := by simp [twoC, infoV]
      refine wp_store_mid 27 _ _ (by rfl) w.heap.size 0 (twoC w5.heap.size).toArray (by rfl) (by rfl) thR i9 (by simp [twoC, Value.oneCell']) ?_
      obtain ⟨R, eR⟩ : ∃ R, R = Y.setCells w.heap.size 0 (twoC w5.heap.size) := ⟨_, rfl⟩
      have rowR : R.rangeAt w.heap.size 0 (twoC w5.heap.size) := by rw [eR]; exact World.rangeAt_setCells_same _ _ _ _ thR
      have bR : Below w.heap.size w R := by rw [eR]; exact below_setCells _ _ _ _ (((bW.trans (t1.mono bW.size)).trans (c5.mono (by omega))).trans (bY.mono (by omega))) (Nat.le_refl _)
      have ouR : ∀ b j, w.heap.size < b → R.cell? ⟨b, j, none⟩ = Y.cell? ⟨b, j, none⟩ := fun b j hb => by rw [eR]; exact World.cell?_setCells_out _ _ _ _ _ (fun e _ => by have e : b = w.heap.size := e; omega)
      have agW : ∀ b j, w.heap.size < b → b < L.heap.size → R.cell? ⟨b, j, none⟩ = L.cell? ⟨b, j, none⟩ := fun b j h1 h2 => (ouR b j h1).trans ((bY.cell (p := ⟨b, j, none⟩) (show b < w5.heap.size by omega)).trans (c5.cell (p := ⟨b, j, none⟩) h2))
      have vin' : VlC R innerV (innerC (w.heap.size + 1)) := innerV_at (fun j u hu => (agW _ _ (by omega) (by omega)).trans ((t1.cell (p := ⟨w.heap.size + 1, 0 + j, none⟩) (show w.heap.size + 1 < W.heap.size by omega)).trans (hmem j u hu)))
      have vl' : VlC R listV (listC SBB) := listV_at (fun j u hu => (agW _ _ hSlo hShi).trans (t3 j u hu)) vin'
      have vt' : VlC R twoV (twoC w5.heap.size) := twoV_at (fun j u hu => (ouR _ _ (by omega)).trans (rowY j u hu)) vl'
      rw [show Y.setCells w.heap.size 0 (twoC w5.heap.size).toArray.toList = R from eR.symm]
      have hSR : R.rangeAt LBB 0 (listC SBB) := fun j u hu => (agW _ _ hLB t4).trans (t2 j u hu)
      refine ⟨hSR, ?_⟩
      refine wpAnyH_done (by kernel_rfl) ?_ _
      refine NoPanic.normal ?_
      simp only [List.getElem_toArray, List.getElem_cons_zero, List.getElem_cons_succ, Act.put, List.setIfInBounds_toArray, List.set_cons_zero, List.set_cons_succ]
      clear eR
      have Hf := hide (And.intro rowR (And.intro bR (And.intro vt' i9)))
      clear rowR bR vt' i9
      go_wp2_with fail
      refine bodyPost_ret (rgn.result_row rfl _ _ w.heap.size 0 (twoC w5.heap.size) _ rfl (unhide Hf).1 Try.underlying27 rfl (by simp [twoC, infoV])) rfl ?_
      exact ⟨(unhide Hf).2.1, _, rfl, (unhide Hf).2.2.1⟩
    · simp only [List.getElem_toArray, List.getElem_cons_zero, List.getElem_cons_succ, Act.put, List.setIfInBounds_toArray, List.set_cons_zero, List.set_cons_succ]
      refine wpO_alloc 27 (by rfl) _ (allocV _) ?_
      obtain ⟨X1, eX1⟩ : ∃ X1, X1 = w1.alloc (.cells #[.int .i64 0, .bool false, .int .i64 0, .float .f64 0, .string { data := #[] }, .string { data := #[] }, .slice none 0 0, .slice none 0 0] 27) := ⟨_, rfl⟩
      have thX1 : X1.there w1.heap.size 0 8 := by rw [eX1]; exact there_new rfl
      have sX1 : w1.heap.size + 1 ≤ X1.heap.size := by rw [eX1]; simp
      have bX1 : Below w1.heap.size w1 X1 := by rw [eX1]; exact (Below.refl _ _).alloc (Nat.le_refl _) _
      rw [← eX1]
      clear eX1
      have hS0 : Below W.heap.size W X1 := hS0.trans (bX1.mono hS0.size)
      refine ⟨hS0, ?_⟩
      simp only [List.getElem_toArray, List.getElem_cons_zero, List.getElem_cons_succ, Act.put, List.setIfInBounds_toArray, List.set_cons_zero, List.set_cons_succ]
      refine rgn.one (i := 2) _ rfl (by kernel_rfl) (by rfl) ?_
      simp only [List.getElem_toArray, List.getElem_cons_zero, List.getElem_cons_succ, Act.put, List.setIfInBounds_toArray, List.set_cons_zero, List.set_cons_succ]
      refine wpO_build2 24 _ _ (by rfl) (.agg (numC 1).toArray) (.agg (innerC (w.heap.size + 1)).toArray) _ (by rfl) (by rfl) (build2V (numV 1 rfl W) vin _) ?_
      obtain ⟨X2, eX2⟩ : ∃ X2, X2 = X1.alloc (.cells (numC 1 ++ innerC (w.heap.size + 1)).toArray 27) := ⟨_, rfl⟩
      have rowX2 : X2.rangeAt X1.heap.size 0 (numC 1 ++ innerC (w.heap.size + 1)) := by rw [eX2]; intro j u hu; rw [Nat.zero_add, World.cell?_alloc_at _ _ _ _ rfl]; simpa using hu
      have sX2 : X1.heap.size + 1 ≤ X2.heap.size := by rw [eX2]; simp
      have bX2 : Below X1.heap.size X1 X2 := by rw [eX2]; exact (Below.refl _ _).alloc (Nat.le_refl _) _
      rw [← eX2]
      clear eX2
      have hS0 : Below W.heap.size W X2 := hS0.trans (bX2.mono hS0.size)
      refine ⟨hS0, ?_⟩
      simp only [List.getElem_toArray, List.getElem_cons_zero, List.getElem_cons_succ, Act.put, List.setIfInBounds_toArray, List.set_cons_zero, List.set_cons_succ]
      refine rgn.take (i := 3) _ (.agg (listC X1.heap.size).toArray) rfl (by kernel_rfl) (by kernel_rfl) (by kernel_rfl) (fun _ _ _ h => h) (by rfl) hS0 (fun w' hw' => by simp only [listC]; go_simp) ?_
      simp only [List.getElem_toArray, List.getElem_cons_zero, List.getElem_cons_succ, Act.put, List.setIfInBounds_toArray, List.set_cons_zero, List.set_cons_succ]
      have thL : X2.there w1.heap.size 0 (listC X1.heap.size).toArray.size := there_below thX1 bX2 (by omega)
      have rowS := rowX2
      have hw := hSW1.size
      have hne : X1.heap.size ≠ w1.heap.size := by omega
      have hLs : w1.heap.size < X2.heap.size := by omega
      have hSs : X1.heap.size < X2.heap.size := by omega
      have hLlo : W.heap.size ≤ w1.heap.size := hw
      have hSlo : w.heap.size < X1.heap.size := by omega
      have hLB : w.heap.size < w1.heap.size := by omega
      refine rgn.one (i := 5) _ rfl (by kernel_rfl) (by rfl) ?_
      simp only [List.getElem_toArray, List.getElem_cons_zero, List.getElem_cons_succ, Act.put, List.setIfInBounds_toArray, List.set_cons_zero, List.set_cons_succ]
      refine wp_store_mid 27 _ _ (by rfl) w1.heap.size 0 (listC X1.heap.size).toArray (by rfl) (by rfl) thL (by simp [listC, infoV]) (by simp [listC, Value.oneCell']) ?_
      obtain ⟨L, eL⟩ : ∃ L, L = X2.setCells w1.heap.size 0 (listC X1.heap.size) := ⟨_, rfl⟩
      have t1 : Below W.heap.size W L := by rw [eL]; exact below_setCells _ _ _ _ hS0 hLlo
      have t2 : L.rangeAt w1.heap.size 0 (listC X1.heap.size) := by rw [eL]; exact World.rangeAt_setCells_same _ _ _ _ thL
      have t3 : L.rangeAt X1.heap.size 0 (numC 1 ++ innerC (w.heap.size + 1)) := by
        rw [eL]
        intro j u hu
        rw [World.cell?_setCells_out _ _ _ _ _ (fun e _ => absurd (show X1.heap.size = w1.heap.size from e) hne)]
        exact rowS j u hu
      have t4 : w1.heap.size < L.heap.size := by rw [eL, size_setCells]; exact hLs
      have hShi : X1.heap.size < L.heap.size := by rw [eL, size_setCells]; exact hSs
      rw [show X2.setCells w1.heap.size 0 (listC X1.heap.size).toArray.toList = L from eL.symm]
      refine ⟨t1, ?_⟩
      refine wpAnyH_done (by kernel_rfl) ?_ _
      refine NoPanic.normal ?_
      simp only [List.getElem_toArray, List.getElem_cons_zero, List.getElem_cons_succ, Act.put, List.setIfInBounds_toArray, List.set_cons_zero, List.set_cons_succ]
      obtain ⟨SBB, eSB⟩ : ∃ S, S = X1.heap.size := ⟨_, rfl⟩
      obtain ⟨LBB, eLB⟩ : ∃ S, S = w1.heap.size := ⟨_, rfl⟩
      rw [← eSB] at t2 t3 hShi hSlo ⊢
      rw [← eLB] at t2 t4 hLB ⊢
      clear eL eSB eLB
      have vl3 := listV_at t3 (VlC.below t1 _ _ vin)
      clear hS0 thL rowS hne hLs hLlo
      go_wp2_with fail
      have hS0 : ({ L with drawn := L.drawn + 1 } : World).rangeAt LBB 0 (listC SBB) := t2
      refine wp_region_noPanic ?_
      refine wp_region_held (S := fun w' => w'.rangeAt LBB 0 (listC SBB)) mixed ?_
      refine wpAnyH_take (i := 0) rfl (by kernel_rfl) (by kernel_rfl) (by kernel_rfl) (fun _ _ _ h => h) (yieldsIf_load_mid (by rfl) 27 _ (by rfl) LBB 0 (by rfl) (listC SBB) _ (fun w' hw' => hw') Try.underlying27 (by rfl) (by simp [listC, infoV])) hS0 ?_
      simp only [List.getElem_toArray, List.getElem_cons_zero, List.getElem_cons_succ, Act.put, List.setIfInBounds_toArray, List.set_cons_zero, List.set_cons_succ]
      refine rgn.take (i := 1) _ (.agg (Value.string { data := #[97] } :: listC SBB).toArray) rfl (by kernel_rfl) (by kernel_rfl) (by kernel_rfl) (fun _ _ _ h => h) (by rfl) hS0 (fun w' hw' => by clear hw'; simp only [listC]; go_simp) ?_
      simp only [List.getElem_toArray, List.getElem_cons_zero, List.getElem_cons_succ, Act.put, List.setIfInBounds_toArray, List.set_cons_zero, List.set_cons_succ]
      refine rgn.one (i := 2) _ rfl (by kernel_rfl) (by rfl) ?_
      simp only [List.getElem_toArray, List.getElem_cons_zero, List.getElem_cons_succ, Act.put, List.setIfInBounds_toArray, List.set_cons_zero, List.set_cons_succ]
      go_wp2_with fail
      refine (text_ok { data := #[120] } _).mono ?_
      rintro e w5 ⟨b5, rfl⟩
      have c5 : Below L.heap.size L w5 := (Below.refl _ _).drew.trans b5
      have hS0 : w5.rangeAt LBB 0 (listC SBB) := Row8.below t2 c5
      refine ⟨hS0, ?_⟩
      refine rgn.take (i := 3) _ (.agg (Value.string { data := #[99] } :: txtC { data := #[120] }).toArray) rfl (by kernel_rfl) (by kernel_rfl) (by kernel_rfl) (fun _ _ _ h => h) (by rfl) hS0 (fun w' hw' => by clear hw'; simp only [txtC]; go_simp) ?_
      simp only [List.getElem_toArray, List.getElem_cons_zero, List.getElem_cons_succ, Act.put, List.setIfInBounds_toArray, List.set_cons_zero, List.set_cons_succ]
      refine rgn.one (i := 4) _ rfl (by kernel_rfl) (by rfl) ?_
      simp only [List.getElem_toArray, List.getElem_cons_zero, List.getElem_cons_succ, Act.put, List.setIfInBounds_toArray, List.set_cons_zero, List.set_cons_succ]
      refine wpO_build2 25 _ _ (by rfl) (.agg (Value.string { data := #[97] } :: listC SBB).toArray) (.agg (Value.string { data := #[99] } :: txtC { data := #[120] }).toArray) _ (by rfl) (by rfl) (build2M { data := #[97] } { data := #[99] } vl3 (txtV { data := #[120] } (by decide) L) _) ?_
      obtain ⟨Y, eY⟩ : ∃ Y, Y = w5.alloc (.cells ((Value.string { data := #[97] } :: listC SBB) ++ (Value.string { data := #[99] } :: txtC { data := #[120] })).toArray 69) := ⟨_, rfl⟩
      have rowY : Y.rangeAt w5.heap.size 0 ((Value.string { data := #[97] } :: listC SBB) ++ (Value.string { data := #[99] } :: txtC { data := #[120] })) := by rw [eY]; intro j u hu; rw [Nat.zero_add, World.cell?_alloc_at _ _ _ _ rfl]; simpa using hu
      have bY : Below w5.heap.size w5 Y := by rw [eY]; exact (Below.refl _ _).alloc (Nat.le_refl _) _
      have sY : w5.heap.size + 1 ≤ Y.heap.size := by rw [eY]; simp
      rw [← eY]
      clear eY
      have hS0 : Y.rangeAt LBB 0 (listC SBB) := Row8.below hS0 bY
      refine ⟨hS0, ?_⟩
      simp only [List.getElem_toArray, List.getElem_cons_zero, List.getElem_cons_succ, Act.put, List.setIfInBounds_toArray, List.set_cons_zero, List.set_cons_succ]
      refine rgn.take (i := 5) _ (.agg (twoC w5.heap.size).toArray) rfl (by kernel_rfl) (by kernel_rfl) (by kernel_rfl) (fun _ _ _ h => h) (by rfl) hS0 (fun w' hw' => by clear hw'; simp only [twoC]; go_simp) ?_
      simp only [List.getElem_toArray, List.getElem_cons_zero, List.getElem_cons_succ, Act.put, List.setIfInBounds_toArray, List.set_cons_zero, List.set_cons_succ]
      refine rgn.one (i := 6) _ rfl (by kernel_rfl) (by rfl) ?_
      simp only [List.getElem_toArray, List.getElem_cons_zero, List.getElem_cons_succ, Act.put, List.setIfInBounds_toArray, List.set_cons_zero, List.set_cons_succ]
      have sW := t1.size
      have s5 := c5.size
      have thR : Y.there w.heap.size 0 (twoC w5.heap.size).toArray.size := there_below (there_below (there_below hth t1 (by omega)) c5 (by omega)) bY (by omega)
      have i9 : (Try.prog.info? 27).map (·.size) = some (twoC w5.heap.size).toArray.size := by simp [twoC, infoV]
      refine wp_store_mid 27 _ _ (by rfl) w.heap.size 0 (twoC w5.heap.size).toArray (by rfl) (by rfl) thR i9 (by simp [twoC, Value.oneCell']) ?_
      obtain ⟨R, eR⟩ : ∃ R, R = Y.setCells w.heap.size 0 (twoC w5.heap.size) := ⟨_, rfl⟩
      have rowR : R.rangeAt w.heap.size 0 (twoC w5.heap.size) := by rw [eR]; exact World.rangeAt_setCells_same _ _ _ _ thR
      have bR : Below w.heap.size w R := by rw [eR]; exact below_setCells _ _ _ _ (((bW.trans (t1.mono bW.size)).trans (c5.mono (by omega))).trans (bY.mono (by omega))) (Nat.le_refl _)
      have ouR : ∀ b j, w.heap.size < b → R.cell? ⟨b, j, none⟩ = Y.cell? ⟨b, j, none⟩ := fun b j hb => by rw [eR]; exact World.cell?_setCells_out _ _ _ _ _ (fun e _ => by have e : b = w.heap.size := e; omega)
      have agW : ∀ b j, w.heap.size < b → b < L.heap.size → R.cell? ⟨b, j, none⟩ = L.cell? ⟨b, j, none⟩ := fun b j h1 h2 => (ouR b j h1).trans ((bY.cell (p := ⟨b, j, none⟩) (show b < w5.heap.size by omega)).trans (c5.cell (p := ⟨b, j, none⟩) h2))
      have vin' : VlC R innerV (innerC (w.heap.size + 1)) := innerV_at (fun j u hu => (agW _ _ (by omega) (by omega)).trans ((t1.cell (p := ⟨w.heap.size + 1, 0 + j, none⟩) (show w.heap.size + 1 < W.heap.size by omega)).trans (hmem j u hu)))
      have vl' : VlC R listV (listC SBB) := listV_at (fun j u hu => (agW _ _ hSlo hShi).trans (t3 j u hu)) vin'
      have vt' : VlC R twoV (twoC w5.heap.size) := twoV_at (fun j u hu => (ouR _ _ (by omega)).trans (rowY j u hu)) vl'
      rw [show Y.setCells w.heap.size 0 (twoC w5.heap.size).toArray.toList = R from eR.symm]
      have hSR : R.rangeAt LBB 0 (listC SBB) := fun j u hu => (agW _ _ hLB t4).trans (t2 j u hu)
      refine ⟨hSR, ?_⟩
      refine wpAnyH_done (by kernel_rfl) ?_ _
      refine NoPanic.normal ?_
      simp only [List.getElem_toArray, List.getElem_cons_zero, List.getElem_cons_succ, Act.put, List.setIfInBounds_toArray, List.set_cons_zero, List.set_cons_succ]
      clear eR
      have Hf := hide (And.intro rowR (And.intro bR (And.intro vt' i9)))
      clear rowR bR vt' i9
      go_wp2_with fail
      refine bodyPost_ret (rgn.result_row rfl _ _ w.heap.size 0 (twoC w5.heap.size) _ rfl (unhide Hf).1 Try.underlying27 rfl (by simp [twoC, infoV])) rfl ?_
      exact ⟨(unhide Hf).2.1, _, rfl, (unhide Hf).2.2.1⟩
  · simp only [List.getElem_toArray, List.getElem_cons_zero, List.getElem_cons_succ, Act.put, List.setIfInBounds_toArray, List.set_cons_zero, List.set_cons_succ]
    refine wpO_alloc 27 (by rfl) _ (allocV _) ?_
    obtain ⟨X1, eX1⟩ : ∃ X1, X1 = ({ W with drawn := W.drawn + 1 } : World).alloc (.cells #[.int .i64 0, .bool false, .int .i64 0, .float .f64 0, .string { data := #[] }, .string { data := #[] }, .slice none 0 0, .slice none 0 0] 27) := ⟨_, rfl⟩
    have thX1 : X1.there W.heap.size 0 8 := by rw [eX1]; exact there_new (w := ({ W with drawn := W.drawn + 1 } : World)) rfl
    have sX1 : W.heap.size + 1 ≤ X1.heap.size := by rw [eX1]; simp
    have bX1 : Below W.heap.size W X1 := by rw [eX1]; exact (Below.refl W.heap.size W).drew.alloc (Nat.le_refl _) _
    rw [← eX1]
    clear eX1
    have hS0 : Below W.heap.size W X1 := bX1
    refine ⟨hS0, ?_⟩
    simp only [List.getElem_toArray, List.getElem_cons_zero, List.getElem_cons_succ, Act.put, List.setIfInBounds_toArray, List.set_cons_zero, List.set_cons_succ]
    refine rgn.one (i := 0) _ rfl (by kernel_rfl) (by rfl) ?_
    simp only [List.getElem_toArray, List.getElem_cons_zero, List.getElem_cons_succ, Act.put, List.setIfInBounds_toArray, List.set_cons_zero, List.set_cons_succ]
    go_wp2_with fail
    refine (num_ok 1 _).mono ?_
    rintro e w1 ⟨bw1, rfl⟩
    have hS0 : Below W.heap.size W w1 := hS0.trans (bw1.mono hS0.size)
    have hSW1 := hS0
    refine ⟨hS0, ?_⟩
    refine rgn.one (i := 2) _ rfl (by kernel_rfl) (by rfl) ?_
    simp only [List.getElem_toArray, List.getElem_cons_zero, List.getElem_cons_succ, Act.put, List.setIfInBounds_toArray, List.set_cons_zero, List.set_cons_succ]
    refine wpO_build2 24 _ _ (by rfl) (.agg (numC 1).toArray) (.agg (innerC (w.heap.size + 1)).toArray) _ (by rfl) (by rfl) (build2V (numV 1 rfl W) vin _) ?_
    obtain ⟨X2, eX2⟩ : ∃ X2, X2 = w1.alloc (.cells (numC 1 ++ innerC (w.heap.size + 1)).toArray 27) := ⟨_, rfl⟩
    have rowX2 : X2.rangeAt w1.heap.size 0 (numC 1 ++ innerC (w.heap.size + 1)) := by rw [eX2]; intro j u hu; rw [Nat.zero_add, World.cell?_alloc_at _ _ _ _ rfl]; simpa using hu
    have sX2 : w1.heap.size + 1 ≤ X2.heap.size := by rw [eX2]; simp
    have bX2 : Below w1.heap.size w1 X2 := by rw [eX2]; exact (Below.refl _ _).alloc (Nat.le_refl _) _
    rw [← eX2]
    clear eX2
    have hS0 : Below W.heap.size W X2 := hS0.trans (bX2.mono hS0.size)
    refine ⟨hS0, ?_⟩
    simp only [List.getElem_toArray, List.getElem_cons_zero, List.getElem_cons_succ, Act.put, List.setIfInBounds_toArray, List.set_cons_zero, List.set_cons_succ]
    refine rgn.take (i := 3) _ (.agg (listC w1.heap.size).toArray) rfl (by kernel_rfl) (by kernel_rfl) (by kernel_rfl) (fun _ _ _ h => h) (by rfl) hS0 (fun w' hw' => by simp only [listC]; go_simp) ?_
    simp only [List.getElem_toArray, List.getElem_cons_zero, List.getElem_cons_succ, Act.put, List.setIfInBounds_toArray, List.set_cons_zero, List.set_cons_succ]
    have sw1 := bw1.size
    have thL : X2.there W.heap.size 0 (listC w1.heap.size).toArray.size := there_below (there_below thX1 bw1 (by omega)) bX2 (by omega)
    have rowS := rowX2
    have hne : w1.heap.size ≠ W.heap.size := by omega
    have hLs : W.heap.size < X2.heap.size := by omega
    have hSs : w1.heap.size < X2.heap.size := by omega
    have hLlo : W.heap.size ≤ W.heap.size := Nat.le_refl _
    have hSlo : w.heap.size < w1.heap.size := by omega
    have hLB : w.heap.size < W.heap.size := by omega
    refine rgn.one (i := 5) _ rfl (by kernel_rfl) (by rfl) ?_
    simp only [List.getElem_toArray, List.getElem_cons_zero, List.getElem_cons_succ, Act.put, List.setIfInBounds_toArray, List.set_cons_zero, List.set_cons_succ]
    refine wp_store_mid 27 _ _ (by rfl) W.heap.size 0 (listC w1.heap.size).toArray (by rfl) (by rfl) thL (by simp [listC, infoV]) (by simp [listC, Value.oneCell']) ?_
    obtain ⟨L, eL⟩ : ∃ L, L = X2.setCells W.heap.size 0 (listC w1.heap.size) := ⟨_, rfl⟩
    have t1 : Below W.heap.size W L := by rw [eL]; exact below_setCells _ _ _ _ hS0 hLlo
    have t2 : L.rangeAt W.heap.size 0 (listC w1.heap.size) := by rw [eL]; exact World.rangeAt_setCells_same _ _ _ _ thL
    have t3 : L.rangeAt w1.heap.size 0 (numC 1 ++ innerC (w.heap.size + 1)) := by
      rw [eL]
      intro j u hu
      rw [World.cell?_setCells_out _ _ _ _ _ (fun e _ => absurd (show w1.heap.size = W.heap.size from e) hne)]
      exact rowS j u hu
    have t4 : W.heap.size < L.heap.size := by rw [eL, size_setCells]; exact hLs
    have hShi : w1.heap.size < L.heap.size := by rw [eL, size_setCells]; exact hSs
    rw [show X2.setCells W.heap.size 0 (listC w1.heap.size).toArray.toList = L from eL.symm]
    refine ⟨t1, ?_⟩
    refine wpAnyH_done (by kernel_rfl) ?_ _
    refine NoPanic.normal ?_
    simp only [List.getElem_toArray, List.getElem_cons_zero, List.getElem_cons_succ, Act.put, List.setIfInBounds_toArray, List.set_cons_zero, List.set_cons_succ]
    obtain ⟨SBB, eSB⟩ : ∃ S, S = w1.heap.size := ⟨_, rfl⟩
    obtain ⟨LBB, eLB⟩ : ∃ S, S = W.heap.size := ⟨_, rfl⟩
    rw [← eSB] at t2 t3 hShi hSlo ⊢
    rw [← eLB] at t2 t4 hLB ⊢
    clear eL eSB eLB
    have vl3 := listV_at t3 (VlC.below t1 _ _ vin)
    clear hS0 thL rowS hne hLs hLlo
    go_wp2_with fail
    have hS0 : ({ L with drawn := L.drawn + 1 } : World).rangeAt LBB 0 (listC SBB) := t2
    refine wp_region_noPanic ?_
    refine wp_region_held (S := fun w' => w'.rangeAt LBB 0 (listC SBB)) mixed ?_
    refine wpAnyH_take (i := 0) rfl (by kernel_rfl) (by kernel_rfl) (by kernel_rfl) (fun _ _ _ h => h) (yieldsIf_load_mid (by rfl) 27 _ (by rfl) LBB 0 (by rfl) (listC SBB) _ (fun w' hw' => hw') Try.underlying27 (by rfl) (by simp [listC, infoV])) hS0 ?_
    simp only [List.getElem_toArray, List.getElem_cons_zero, List.getElem_cons_succ, Act.put, List.setIfInBounds_toArray, List.set_cons_zero, List.set_cons_succ]
    refine rgn.take (i := 1) _ (.agg (Value.string { data := #[97] } :: listC SBB).toArray) rfl (by kernel_rfl) (by kernel_rfl) (by kernel_rfl) (fun _ _ _ h => h) (by rfl) hS0 (fun w' hw' => by clear hw'; simp only [listC]; go_simp) ?_
    simp only [List.getElem_toArray, List.getElem_cons_zero, List.getElem_cons_succ, Act.put, List.setIfInBounds_toArray, List.set_cons_zero, List.set_cons_succ]
    refine rgn.one (i := 2) _ rfl (by kernel_rfl) (by rfl) ?_
    simp only [List.getElem_toArray, List.getElem_cons_zero, List.getElem_cons_succ, Act.put, List.setIfInBounds_toArray, List.set_cons_zero, List.set_cons_succ]
    go_wp2_with fail
    refine (text_ok { data := #[120] } _).mono ?_
    rintro e w5 ⟨b5, rfl⟩
    have c5 : Below L.heap.size L w5 := (Below.refl _ _).drew.trans b5
    have hS0 : w5.rangeAt LBB 0 (listC SBB) := Row8.below t2 c5
    refine ⟨hS0, ?_⟩
    refine rgn.take (i := 3) _ (.agg (Value.string { data := #[99] } :: txtC { data := #[120] }).toArray) rfl (by kernel_rfl) (by kernel_rfl) (by kernel_rfl) (fun _ _ _ h => h) (by rfl) hS0 (fun w' hw' => by clear hw'; simp only [txtC]; go_simp) ?_
    simp only [List.getElem_toArray, List.getElem_cons_zero, List.getElem_cons_succ, Act.put, List.setIfInBounds_toArray, List.set_cons_zero, List.set_cons_succ]
    refine rgn.one (i := 4) _ rfl (by kernel_rfl) (by rfl) ?_
    simp only [List.getElem_toArray, List.getElem_cons_zero, List.getElem_cons_succ, Act.put, List.setIfInBounds_toArray, List.set_cons_zero, List.set_cons_succ]
    refine wpO_build2 25 _ _ (by rfl) (.agg (Value.string { data := #[97] } :: listC SBB).toArray) (.agg (Value.string { data := #[99] } :: txtC { data := #[120] }).toArray) _ (by rfl) (by rfl) (build2M { data := #[97] } { data := #[99] } vl3 (txtV { data := #[120] } (by decide) L) _) ?_
    obtain ⟨Y, eY⟩ : ∃ Y, Y = w5.alloc (.cells ((Value.string { data := #[97] } :: listC SBB) ++ (Value.string { data := #[99] } :: txtC { data := #[120] })).toArray 69) := ⟨_, rfl⟩
    have rowY : Y.rangeAt w5.heap.size 0 ((Value.string { data := #[97] } :: listC SBB) ++ (Value.string { data := #[99] } :: txtC { data := #[120] })) := by rw [eY]; intro j u hu; rw [Nat.zero_add, World.cell?_alloc_at _ _ _ _ rfl]; simpa using hu
    have bY : Below w5.heap.size w5 Y := by rw [eY]; exact (Below.refl _ _).alloc (Nat.le_refl _) _
    have sY : w5.heap.size + 1 ≤ Y.heap.size := by rw [eY]; simp
    rw [← eY]
    clear eY
    have hS0 : Y.rangeAt LBB 0 (listC SBB) := Row8.below hS0 bY
    refine ⟨hS0, ?_⟩
    simp only [List.getElem_toArray, List.getElem_cons_zero, List.getElem_cons_succ, Act.put, List.setIfInBounds_toArray, List.set_cons_zero, List.set_cons_succ]
    refine rgn.take (i := 5) _ (.agg (twoC w5.heap.size).toArray) rfl (by kernel_rfl) (by kernel_rfl) (by kernel_rfl) (fun _ _ _ h => h) (by rfl) hS0 (fun w' hw' => by clear hw'; simp only [twoC]; go_simp) ?_
    simp only [List.getElem_toArray, List.getElem_cons_zero, List.getElem_cons_succ, Act.put, List.setIfInBounds_toArray, List.set_cons_zero, List.set_cons_succ]
    refine rgn.one (i := 6) _ rfl (by kernel_rfl) (by rfl) ?_
    simp only [List.getElem_toArray, List.getElem_cons_zero, List.getElem_cons_succ, Act.put, List.setIfInBounds_toArray, List.set_cons_zero, List.set_cons_succ]
    have sW := t1.size
    have s5 := c5.size
    have thR : Y.there w.heap.size 0 (twoC w5.heap.size).toArray.size := there_below (there_below (there_below hth t1 (by omega)) c5 (by omega)) bY (by omega)
    have i9 : (Try.prog.info? 27).map (·.size) = some (twoC w5.heap.size).toArray.size := by simp [twoC, infoV]
    refine wp_store_mid 27 _ _ (by rfl) w.heap.size 0 (twoC w5.heap.size).toArray (by rfl) (by rfl) thR i9 (by simp [twoC, Value.oneCell']) ?_
    obtain ⟨R, eR⟩ : ∃ R, R = Y.setCells w.heap.size 0 (twoC w5.heap.size) := ⟨_, rfl⟩
    have rowR : R.rangeAt w.heap.size 0 (twoC w5.heap.size) := by rw [eR]; exact World.rangeAt_setCells_same _ _ _ _ thR
    have bR : Below w.heap.size w R := by rw [eR]; exact below_setCells _ _ _ _ (((bW.trans (t1.mono bW.size)).trans (c5.mono (by omega))).trans (bY.mono (by omega))) (Nat.le_refl _)
    have ouR : ∀ b j, w.heap.size < b → R.cell? ⟨b, j, none⟩ = Y.cell? ⟨b, j, none⟩ := fun b j hb => by rw [eR]; exact World.cell?_setCells_out _ _ _ _ _ (fun e _ => by have e : b = w.heap.size := e; omega)
    have agW : ∀ b j, w.heap.size < b → b < L.heap.size → R.cell? ⟨b, j, none⟩ = L.cell? ⟨b, j, none⟩ := fun b j h1 h2 => (ouR b j h1).trans ((bY.cell (p := ⟨b, j, none⟩) (show b < w5.heap.size by omega)).trans (c5.cell (p := ⟨b, j, none⟩) h2))
    have vin' : VlC R innerV (innerC (w.heap.size + 1)) := innerV_at (fun j u hu => (agW _ _ (by omega) (by omega)).trans ((t1.cell (p := ⟨w.heap.size + 1, 0 + j, none⟩) (show w.heap.size + 1 < W.heap.size by omega)).trans (hmem j u hu)))
    have vl' : VlC R listV (listC SBB) := listV_at (fun j u hu => (agW _ _ hSlo hShi).trans (t3 j u hu)) vin'
    have vt' : VlC R twoV (twoC w5.heap.size) := twoV_at (fun j u hu => (ouR _ _ (by omega)).trans (rowY j u hu)) vl'
    rw [show Y.setCells w.heap.size 0 (twoC w5.heap.size).toArray.toList = R from eR.symm]
    have hSR : R.rangeAt LBB 0 (listC SBB) := fun j u hu => (agW _ _ hLB t4).trans (t2 j u hu)
    refine ⟨hSR, ?_⟩
    refine wpAnyH_done (by kernel_rfl) ?_ _
    refine NoPanic.normal ?_
    simp only [List.getElem_toArray, List.getElem_cons_zero, List.getElem_cons_succ, Act.put, List.setIfInBounds_toArray, List.set_cons_zero, List.set_cons_succ]
    clear eR
    have Hf := hide (And.intro rowR (And.intro bR (And.intro vt' i9)))
    clear rowR bR vt' i9
    go_wp2_with fail
    refine bodyPost_ret (rgn.result_row rfl _ _ w.heap.size 0 (twoC w5.heap.size) _ rfl (unhide Hf).1 Try.underlying27 rfl (by simp [twoC, infoV])) rfl ?_
    exact ⟨(unhide Hf).2.1, _, rfl, (unhide Hf).2.2.1⟩
end Go.Proofs.Ythpcpminikmcbaa.vl
namespace Go.Proofs.Ythpcpminikmcbaa.og
open Go.ChangeShapes Go.WideShapes Go.ChangeAt Go.RowKit
open vl hiding cB cFl cS cF cI cK cIt
set_option linter.unusedVariables false
set_option linter.unusedSimpArgs false
theorem two_eq : (ordV twoV twoV == 0) = true := by rw [ordV_self]; rfl
theorem two_ne : (ordV twoV (turnV twoV) == 0) = false := by kernel_rfl
theorem two_cnt : wrap64 (cnt twoV : Nat) = 6 := by
  have : cnt twoV = 6 := by kernel_rfl
  rw [this]
  unfold wrap64
  omega
theorem two_dep : depW twoV = 3 := by kernel_rfl
set_option maxHeartbeats 4000000 in
set_option maxRecDepth 6000 in
theorem known_ok (w : World) : Calls Try.prog 12 #[] w fun e w' => e = .returned (.bool true) ∧ Below w.heap.size w w' := by
  go_enter Try.func12, Try.ntmps12
  go_wp2_with fail
  refine (two_ok _).mono ?_
  rintro e w1 ⟨b1, t1, rfl, v1⟩
  generalize twoC t1 = c1 at *
  go_wp2_with fail
  refine (two_ok _).mono ?_
  rintro e w2 ⟨b2, t2, rfl, v2⟩
  generalize twoC t2 = c2 at *
  go_wp2_with fail
  refine (equal_ok twoV twoV Small.twoV Small.twoV _ _ _ (VlC.below b2 _ _ v1) v2).mono ?_
  rintro e w3 ⟨rfl, b3⟩
  rw [two_eq]
  have B3 : Below w.heap.size w w3 := (b1.trans (b2.mono b1.size)).trans (b3.mono (Nat.le_trans b1.size b2.size))
  clear b1 b2 b3 v1 v2
  go_wp2_with fail
  refine (two_ok _).mono ?_
  rintro e w4 ⟨b4, t3, rfl, v3⟩
  generalize twoC t3 = c3 at *
  go_wp2_with fail
  refine (two_ok _).mono ?_
  rintro e w5 ⟨b5, t4, rfl, v4⟩
  generalize twoC t4 = c4 at *
  go_wp2_with fail
  refine (turned_ok twoV Small.twoV (fun _ => False) c4 _ (fun b hb => hb.elim) (AvC.of _ _ v4)).mono ?_
  rintro e w6 ⟨u, d4, rfl, rfl, a4, b6⟩
  go_wp2_with fail
  refine (equal_ok twoV (turnV twoV) Small.twoV (Small.turn _ Small.twoV) _ _ _ (VlC.below b6 _ _ (VlC.below b5 _ _ v3)) (AvC.read _ _ a4)).mono ?_
  rintro e w7 ⟨rfl, b7⟩
  rw [two_ne]
  have B7 : Below w.heap.size w w7 := by
    have s4 := b4.size; have s5 := b5.size; have s6 := b6.size; have s3 := B3.size
    exact (((B3.trans (b4.mono s3)).trans (b5.mono (by omega))).trans (b6.mono (by omega))).trans (b7.mono (by omega))
  clear b4 b5 b6 b7 v3 v4 a4 B3
  go_wp2_with fail
  refine (two_ok _).mono ?_
  rintro e w8 ⟨b8, t5, rfl, v5⟩
  generalize twoC t5 = c5 at *
  go_wp2_with fail
  refine (two_ok _).mono ?_
  rintro e w9 ⟨b9, t6, rfl, v6⟩
  generalize twoC t6 = c6 at *
  go_wp2_with fail
  refine (turned_ok twoV Small.twoV (fun _ => False) c6 _ (fun b hb => hb.elim) (AvC.of _ _ v6)).mono ?_
  rintro e wa ⟨u, d6, rfl, rfl, a6, ba⟩
  go_wp2_with fail
  refine (same_ok twoV (turnV twoV) Small.twoV (Small.turn _ Small.twoV) _ _ _ (VlC.below ba _ _ (VlC.below b9 _ _ v5)) (AvC.read _ _ a6)).mono ?_
  rintro e wb ⟨v', u', h1, h2, rfl, bb⟩
  rw [show (ordV v' u' == 0) = true by rw [pm_srt twoV Small.twoV _ (Small.turn _ Small.twoV) (Pm.turn twoV) v' u' h1 h2]; rfl]
  have Bb : Below w.heap.size w wb := by
    have s4 := b8.size; have s5 := b9.size; have s6 := ba.size; have s3 := B7.size
    exact (((B7.trans (b8.mono s3)).trans (b9.mono (by omega))).trans (ba.mono (by omega))).trans (bb.mono (by omega))
  clear b8 b9 ba bb v5 v6 a6 B7 h1 h2
  go_wp2_with fail
  refine (two_ok _).mono ?_
  rintro e wc ⟨bc, t7, rfl, v7⟩
  generalize twoC t7 = c7 at *
  go_wp2_with fail
  refine (count_ok twoV Small.twoV _ _ v7).mono ?_
  rintro e wd ⟨rfl, bd⟩
  rw [two_cnt]
  have Bd : Below w.heap.size w wd := (Bb.trans (bc.mono Bb.size)).trans (bd.mono (Nat.le_trans Bb.size bc.size))
  clear bc bd Bb v7
  go_wp2_with fail
  refine (two_ok _).mono ?_
  rintro e we ⟨be, t8, rfl, v8⟩
  generalize twoC t8 = c8 at *
  go_wp2_with fail
  refine (depth_ok twoV Small.twoV _ _ v8).mono ?_
  rintro e wf ⟨rfl, bf⟩
  rw [two_dep]
  have Bf : Below w.heap.size w wf := (Bd.trans (be.mono Bd.size)).trans (bf.mono (Nat.le_trans Bd.size be.size))
  clear be bf Bd v8
  go_wp2
  go_ret
  exact ⟨rfl, Bf⟩
end Go.Proofs.Ythpcpminikmcbaa.og
namespace Go.Proofs.Ythpcpminikmcbaa.og
open Go.ChangeShapes Go.WideShapes Go.ChangeAt Go.RowKit
open vl hiding cB cFl cS cF cI cK cIt
set_option linter.unusedVariables false
set_option linter.unusedSimpArgs false
/-- what was there is there -/
def Gb (a w : World) : Prop := Below a.heap.size a w
theorem Gb.refl (a : World) : Gb a a := Below.refl _ _
theorem Gb.drew {a w : World} (h : Gb a w) : Gb a { w with drawn := w.drawn + 1 } := Below.drew h
theorem Gb.size {a w : World} (h : Gb a w) : a.heap.size ≤ w.heap.size := Below.size h
theorem Gb.trans {a w x : World} (h : Gb a w) (k : Below a.heap.size w x) : Gb a x := Below.trans h k
theorem sum_perm {l m : List Nat} (h : l.Perm m) : l.sum = m.sum := by
  induction h with
  | nil => rfl
  | cons x _ ih => simp [ih]
  | swap x y l => simp; omega
  | trans _ _ h1 h2 => exact h1.trans h2
theorem fmax_perm {l m : List Int} (h : l.Perm m) : ∀ a : Int, l.foldl max a = m.foldl max a := by
  induction h with
  | nil => intro a; rfl
  | cons x _ ih => intro a; exact ih _
  | swap x y l => intro a; simp only [List.foldl_cons]; rw [show max (max a y) x = max (max a x) y by omega]
  | trans _ _ h1 h2 => intro a; exact (h1 a).trans (h2 a)
theorem cnt_turn : ∀ v : Vl, cnt (turnV v) = cnt v := by
  refine Vl.all ?_
  intro kd b n f tx ty its fls hI hF
  rw [turnV, cnt, cnt, cntI_sum, cntI_sum, cntF_sum, cntF_sum, turnI_list, turnF_list]
  have e1 : ((its.list.map turnV).map cnt) = its.list.map cnt := by
    rw [List.map_map]; exact List.map_congr_left (fun v hv => hI v hv)
  have e2 : ((fls.list.reverse.map (fun q => (q.1, turnV q.2)) ++ (Fls.nil).list).map (fun q => cnt q.2)).sum = (fls.list.map (fun q => cnt q.2)).sum := by
    simp only [Fls.list, List.append_nil, List.map_map]
    rw [show fls.list.reverse.map ((fun q : ByteArray × Vl => cnt q.2) ∘ fun q => (q.1, turnV q.2)) = fls.list.reverse.map (fun q => cnt q.2) from List.map_congr_left (fun q hq => hF q (List.mem_reverse.1 hq))]
    exact sum_perm ((List.reverse_perm _).map _)
  rw [e1, e2]
theorem dep_turn : ∀ v : Vl, depW (turnV v) = depW v := by
  refine Vl.all ?_
  intro kd b n f tx ty its fls hI hF
  rw [turnV, depW, depW, mxI_fold, mxI_fold, mxF_fold, mxF_fold, turnI_list, turnF_list]
  have e1 : ((its.list.map turnV).map depW) = its.list.map depW := by
    rw [List.map_map]; exact List.map_congr_left (fun v hv => hI v hv)
  have e2 : ((fls.list.reverse.map (fun q => (q.1, turnV q.2)) ++ (Fls.nil).list).map (fun q => depW q.2)).foldl max 0 = (fls.list.map (fun q => depW q.2)).foldl max 0 := by
    simp only [Fls.list, List.append_nil, List.map_map]
    rw [show fls.list.reverse.map ((fun q : ByteArray × Vl => depW q.2) ∘ fun q => (q.1, turnV q.2)) = fls.list.reverse.map (fun q => depW q.2) from List.map_congr_left (fun q hq => hF q (List.mem_reverse.1 hq))]
    exact fmax_perm ((List.reverse_perm _).map _) 0
  rw [e1, e2]
open Classical in
/-- what tree.Same answers -/
noncomputable def smB (v u : Vl) : Bool := decide (∃ v' u', Srt v v' ∧ Srt u u' ∧ ordV v' u' = 0)
theorem srt_lvl {v v1 v2 : Vl} (hv : Small v) (h1 : Srt v v1) (h2 : Srt v v2) : ordV v1 v2 = 0 := pm_srt v hv v hv (Pm.refl v) v1 v2 h1 h2
theorem ordV_zero_trans {a b c : Vl} (ha : Small a) (hb : Small b) (hc : Small c) (h : ordV a b = 0) (k : ordV b c = 0) : ordV a c = 0 := ((Tr.ordV a ha b hb c hc).1 h).trans k
theorem ordV_zero_symm {a b : Vl} (ha : Small a) (hb : Small b) (h : ordV a b = 0) : ordV b a = 0 := by rw [ordV_anti a b ha hb, h]; rfl
theorem smB_of {v u v' u' : Vl} (hv : Small v) (hu : Small u) (h1 : Srt v v') (h2 : Srt u u') : smB v u = (ordV v' u' == 0) := by
  unfold smB
  by_cases h : ordV v' u' = 0
  · rw [h]
    exact @decide_eq_true _ (_) ⟨v', u', h1, h2, h⟩
  · rw [show (ordV v' u' == 0) = false by simpa using h]
    refine @decide_eq_false _ (_) ?_
    rintro ⟨a, b, ka, kb, k⟩
    have sa := Srt.small _ _ hv ka
    have sb := Srt.small _ _ hu kb
    have s1 := Srt.small _ _ hv h1
    have s2 := Srt.small _ _ hu h2
    exact h (ordV_zero_trans s1 sa s2 (srt_lvl hv h1 ka) (ordV_zero_trans sa sb s2 k (srt_lvl hu kb h2)))
theorem same_okB (v u : Vl) (hv : Small v) (hu : Small u) (cs ds : List Value) (w : World) (h1 : VlC w v cs) (h2 : VlC w u ds) : Calls Try.prog 29 #[.agg cs.toArray, .agg ds.toArray] w fun e w' => e = .returned (.bool (smB v u)) ∧ Below w.heap.size w w' ∧ (∃ v', Srt v v') ∧ ∃ u', Srt u u' :=
  (same_ok v u hv hu cs ds w h1 h2).mono fun e w' ⟨v', u', k1, k2, k3, k4⟩ => ⟨by rw [smB_of hv hu k1 k2]; exact k3, k4, ⟨v', k1⟩, ⟨u', k2⟩⟩
theorem smB_pm {v u : Vl} (hv : Small v) (hu : Small u) (hp : Pm v u) (h1 : ∃ v', Srt v v') (h2 : ∃ u', Srt u u') : smB v u = true := by
  obtain ⟨v', h1⟩ := h1
  obtain ⟨u', h2⟩ := h2
  rw [smB_of hv hu h1 h2, pm_srt v hv u hu hp v' u' h1 h2]
  rfl
theorem smB_symm {v u : Vl} (hv : Small v) (hu : Small u) : smB u v = smB v u := by
  unfold smB
  refine (@decide_eq_decide _ _ (_) (_)).2 ⟨?_, ?_⟩
  · rintro ⟨a, b, ka, kb, k⟩
    exact ⟨b, a, kb, ka, ordV_zero_symm (Srt.small _ _ hu ka) (Srt.small _ _ hv kb) k⟩
  · rintro ⟨a, b, ka, kb, k⟩
    exact ⟨b, a, kb, ka, ordV_zero_symm (Srt.small _ _ hv ka) (Srt.small _ _ hu kb) k⟩
theorem smB_left {v t u : Vl} (hv : Small v) (ht : Small t) (hu : Small u) (hp : Pm v t) (h1 : ∃ v', Srt v v') (h2 : ∃ u', Srt t u') : smB t u = smB v u := by
  unfold smB
  obtain ⟨x, h1⟩ := h1
  obtain ⟨y, h2⟩ := h2
  have sx := Srt.small _ _ hv h1
  have sy := Srt.small _ _ ht h2
  refine (@decide_eq_decide _ _ (_) (_)).2 ⟨?_, ?_⟩
  · rintro ⟨a, b, ka, kb, k⟩
    exact ⟨x, b, h1, kb, ordV_zero_trans sx (Srt.small _ _ ht ka) (Srt.small _ _ hu kb) (pm_srt v hv t ht hp x a h1 ka) k⟩
  · rintro ⟨a, b, ka, kb, k⟩
    exact ⟨y, b, h2, kb, ordV_zero_trans sy (Srt.small _ _ hv ka) (Srt.small _ _ hu kb) (ordV_zero_symm (Srt.small _ _ hv ka) sy (pm_srt v hv t ht hp a y ka h2)) k⟩
end Go.Proofs.Ythpcpminikmcbaa.og
namespace Go.Proofs.Ythpcpminikmcbaa.og
open Go.ChangeShapes Go.WideShapes Go.ChangeAt Go.RowKit
open vl hiding cB cFl cS cF cI cK cIt
open stp (c3 c3_lt c3_gt c3_eq cB cB_tri)
open mem (dec_fin dec_inf dec_nan word_of order_fin sv)
set_option linter.unusedVariables false
set_option linter.unusedSimpArgs false
set_option maxHeartbeats 4000000 in
theorem rkind_ok (v : Vl) (cs : List Value) (w w0 : World) (hv : VlC w0 v cs) : Calls Try.prog 88 #[.agg cs.toArray] w fun e w' => e = .returned (.int .i64 (kdV v)) ∧ Below w.heap.size w w' := by
  obtain ⟨kd, b, n, f, tx, ty, its, fls⟩ := v
  unfold VlC at hv
  obtain ⟨ai, ni, ci, af, nf, cf, rfl, -⟩ := hv
  unfold kdV
  have hB : Below w.heap.size w (w.alloc (.cells #[.int .i64 kd, .bool b, .int .i64 n, .float .f64 f, .string tx, .string ty, .slice ai ni ci, .slice af nf cf] 27)) := (Below.refl _ _).alloc (Nat.le_refl _) _
  by_cases h1 : kd < 0
  · have hr := hide (show kdOf kd = 0 by unfold kdOf; rw [if_pos (.inl h1)])
    go_enter Try.func88, Try.ntmps88
    go_wp2
    go_ret
    exact ⟨by rw [unhide hr]; rfl, hB⟩
  · by_cases h2 : 7 < kd
    · have hr := hide (show kdOf kd = 0 by unfold kdOf; rw [if_pos (.inr h2)])
      go_enter Try.func88, Try.ntmps88
      go_wp2
      go_ret
      exact ⟨by rw [unhide hr]; rfl, hB⟩
    · have hr := hide (show kdOf kd = kd by unfold kdOf; rw [if_neg (by omega)])
      go_enter Try.func88, Try.ntmps88
      go_wp2
      go_ret
      exact ⟨by rw [unhide hr]; rfl, hB⟩
theorem keyF_inj (a b : Nat) (ha : a < 18446744073709551616) (hb : b < 18446744073709551616) (na : nanF a = false) (nb : nanF b = false) (h : keyF a = keyF b) : a = b := by
  unfold keyF at h
  rw [na, nb] at h
  simp only [Bool.false_eq_true, if_false] at h
  by_cases h1 : 9223372036854775808 ≤ a <;> by_cases h2 : 9223372036854775808 ≤ b <;> simp only [h1, h2, if_true, if_false] at h <;> omega
theorem cFl_num (a b : Nat) (ha : a < 18446744073709551616) (hb : b < 18446744073709551616) (na : nanF a = false) (nb : nanF b = false) : (cFl a b == 0) = (a == b) := by
  by_cases h : a = b
  · subst h
    simp [cFl, sameF]
  · rw [show (a == b) = false by simpa using h, cFl_key a b ha hb]
    have : c3 (keyF a) (keyF b) ≠ 0 := fun e => h (keyF_inj a b ha hb na nb (c3_zero e))
    simpa using this
theorem cFl_one (a b : Nat) (ha : a < 18446744073709551616) (hb : b < 18446744073709551616) (h : nanF a ≠ nanF b) : (cFl a b == 0) = false := by
  have : c3 (keyF a) (keyF b) ≠ 0 := fun e => by
    have e := c3_zero e
    unfold keyF at e
    cases ha' : nanF a <;> cases hb' : nanF b <;> simp only [ha', hb', Bool.false_eq_true, if_false, if_true] at e h
    · exact h rfl
    · split at e <;> omega
    · split at e <;> omega
    · exact h rfl
  rw [cFl_key a b ha hb]
  simpa using this
theorem cFl_two (a b : Nat) (na : nanF a = true) (nb : nanF b = true) : (cFl a b == 0) = true := by
  simp [cFl, sameF, na, nb]
theorem ord_eq (a b : Nat) (ha : a < 18446744073709551616) (hb : b < 18446744073709551616) (na : nanF a = false) (nb : nanF b = false) (hz : ¬ (a % 9223372036854775808 = 0 ∧ b % 9223372036854775808 = 0)) : (FloatKind.f64.format.order a b == some Ordering.eq) = (a == b) := by
  by_cases h : a = b
  · subst h
    rw [(ordSelf a ha).2, na]
    simp
  · rw [show (a == b) = false by simpa using h]
    have nA : a % 9223372036854775808 ≤ 9218868437227405312 := by unfold nanF at na; simpa using na
    have nB : b % 9223372036854775808 ≤ 9218868437227405312 := by unfold nanF at nb; simpa using nb
    have ho := ord_num (sgn a) (sgn b) _ _ nA nB
    unfold sgn at ho
    rw [word_of a ha, word_of b hb] at ho
    rw [ho]
    have vm : ∀ x y : Nat, x < y → mem.vR x < mem.vR y := fun x y h => mem.vR_mono h
    have z0 : mem.vR 0 = 0 := by simp [mem.vR, mem.mantR, mem.b52]
    have hzz : ∀ x : Nat, mem.vR x = 0 → x = 0 := fun x hx => by
      rcases Nat.eq_zero_or_pos x with h | h
      · exact h
      · have := vm 0 x h; omega
    have inj : ∀ x y : Nat, mem.vR x = mem.vR y → x = y := fun x y hx => by
      rcases Nat.lt_trichotomy x y with h | h | h
      · have := vm _ _ h; omega
      · exact h
      · have := vm _ _ h; omega
    have hne : sv (decide (9223372036854775808 ≤ a)) (mem.vR (a % 9223372036854775808)) ≠ sv (decide (9223372036854775808 ≤ b)) (mem.vR (b % 9223372036854775808)) := by
      intro e
      by_cases sa : 9223372036854775808 ≤ a <;> by_cases sb : 9223372036854775808 ≤ b <;> simp only [sa, sb, decide_true, decide_false, sv, if_true, if_false, Bool.false_eq_true] at e
      · have := inj _ _ (show mem.vR (a % 9223372036854775808) = mem.vR (b % 9223372036854775808) by omega); omega
      · have h1 := hzz _ (show mem.vR (a % 9223372036854775808) = 0 by omega)
        have h2 := hzz _ (show mem.vR (b % 9223372036854775808) = 0 by omega)
        exact hz ⟨h1, h2⟩
      · have h1 := hzz _ (show mem.vR (a % 9223372036854775808) = 0 by omega)
        have h2 := hzz _ (show mem.vR (b % 9223372036854775808) = 0 by omega)
        exact hz ⟨h1, h2⟩
      · have := inj _ _ (show mem.vR (a % 9223372036854775808) = mem.vR (b % 9223372036854775808) by omega); omega
    have : compare (sv (decide (9223372036854775808 ≤ a)) (mem.vR (a % 9223372036854775808))) (sv (decide (9223372036854775808 ≤ b)) (mem.vR (b % 9223372036854775808))) ≠ Ordering.eq := fun e => hne (Int.compare_eq_eq.1 e)
    generalize compare (sv (decide (9223372036854775808 ≤ a)) (mem.vR (a % 9223372036854775808))) (sv (decide (9223372036854775808 ≤ b)) (mem.vR (b % 9223372036854775808))) = o at *
    cases o <;> first | rfl | exact absurd rfl this
set_option maxHeartbeats 4000000 in
/-- ref03.SameFloat -/
theorem sfl_ok (a b : Nat) (ha : a < 18446744073709551616) (hb : b < 18446744073709551616) (w : World) : Calls Try.prog 33 #[.float .f64 a, .float .f64 b] w fun e w' => e = .returned (.bool (cFl a b == 0)) ∧ w = w' := by
  obtain ⟨sa, -⟩ := ordSelf a ha
  obtain ⟨sb, -⟩ := ordSelf b hb
  cases na : nanF a with
  | true =>
    rw [na] at sa
    cases nb : nanF b with
    | true =>
      rw [nb] at sb
      rw [cFl_two a b na nb]
      clear ha hb na nb
      go_enter Try.func33, Try.ntmps33
      go_wp2
      go_ret
      exact ⟨rfl, rfl⟩
    | false =>
      rw [nb] at sb
      rw [cFl_one a b ha hb (by rw [na, nb]; decide)]
      clear ha hb na nb
      go_enter Try.func33, Try.ntmps33
      go_wp2
      go_ret
      exact ⟨rfl, rfl⟩
  | false =>
    rw [na] at sa
    cases nb : nanF b with
    | true =>
      rw [nb] at sb
      rw [cFl_one a b ha hb (by rw [na, nb]; decide)]
      clear ha hb na nb
      go_enter Try.func33, Try.ntmps33
      go_wp2
      go_ret
      exact ⟨rfl, rfl⟩
    | false =>
      rw [nb] at sb
      rw [cFl_num a b ha hb na nb]
      by_cases hz : a % 9223372036854775808 = 0 ∧ b % 9223372036854775808 = 0
      · have q0 : ∀ w, (binOp .quo 23 (.float .f64 4607182418800017408) (.float .f64 0)).run Try.prog w = .ok (.float .f64 9218868437227405312) w := fun w => run_float_arith w _ _ _ _ _ _ (by decide)
        have q1 : ∀ w, (binOp .quo 23 (.float .f64 4607182418800017408) (.float .f64 9223372036854775808)).run Try.prog w = .ok (.float .f64 18442240474082181120) w := fun w => run_float_arith w _ _ _ _ _ _ (by decide)
        have z0 : (FloatKind.f64.format.order 0 0 == some Ordering.eq) = true := by decide
        have z1 : (FloatKind.f64.format.order 9223372036854775808 0 == some Ordering.eq) = true := by decide
        have i0 : (FloatKind.f64.format.order 9218868437227405312 9218868437227405312 == some Ordering.eq) = true := by decide
        have i1 : (FloatKind.f64.format.order 18442240474082181120 18442240474082181120 == some Ordering.eq) = true := by decide
        have i2 : (FloatKind.f64.format.order 18442240474082181120 9218868437227405312 == some Ordering.eq) = false := by decide
        have i3 : (FloatKind.f64.format.order 9218868437227405312 18442240474082181120 == some Ordering.eq) = false := by decide
        have y0 : (FloatKind.f64.format.order 0 0 != some Ordering.eq) = false := by decide
        have y1 : (FloatKind.f64.format.order 9223372036854775808 9223372036854775808 != some Ordering.eq) = false := by decide
        rcases (show a = 0 ∨ a = 9223372036854775808 by omega) with rfl | rfl <;> rcases (show b = 0 ∨ b = 9223372036854775808 by omega) with rfl | rfl
        all_goals
          clear ha hb na nb hz sa sb
          go_enter Try.func33, Try.ntmps33
          go_wp2
          go_ret
          exact ⟨rfl, rfl⟩
      · have he := ord_eq a b ha hb na nb hz
        by_cases za : a % 9223372036854775808 = 0
        · have zb : b % 9223372036854775808 ≠ 0 := fun h => hz ⟨za, h⟩
          have oz := ordZero b hb zb
          have oa : (FloatKind.f64.format.order a 0 == some Ordering.eq) = true := by
            rcases (show a = 0 ∨ a = 9223372036854775808 by omega) with rfl | rfl <;> decide
          clear ha hb na nb hz za zb
          go_enter Try.func33, Try.ntmps33
          go_wp2
          go_ret
          exact ⟨by simp [he], rfl⟩
        · have oz := ordZero a ha za
          clear ha hb na nb hz za
          go_enter Try.func33, Try.ntmps33
          go_wp2
          go_ret
          exact ⟨by simp [he], rfl⟩
end Go.Proofs.Ythpcpminikmcbaa.og
