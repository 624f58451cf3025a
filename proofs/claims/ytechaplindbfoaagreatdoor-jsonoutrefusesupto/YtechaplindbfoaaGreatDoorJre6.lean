import Derived.Test.YtechaplindbfoaaGreatDoorJre5
import Derived.OwnWalkIn
namespace Go.Proofs.YtechaplindbfoaaGreatDoor.og
open Go.ChangeShapes Go.WideShapes Go.ChangeAt Go.RowKit Go.Shelf
open vl hiding cB cFl cS cF cI cK cIt
open stp (St Pth St3)
attribute [local go_sem] Oper.semAt_some
set_option linter.unusedVariables false
set_option linter.unusedSimpArgs false
theorem wp_lgIn {F : Fence} {fn : Nat} {W w : World} {l : List St} {sl : Value} {ops : Array Oper} {rest : List Oper} {o : Oper} {a : Act} {Q : Exit → Act → World → Prop} (hG : GrS W.heap.size l sl w) (hB : Gb W w) (hgd : o.guard = none) (s x : Operand)
    (ho : o.op = .call { callee := .builtin .append, args := #[s, x], argTypes := #[38, 38] }) (hs : a.eval s = sl) (t : St) (N : Nat) (hN : N = w.heap.size) (hx : a.eval x = .slice (some ⟨N, 0, none⟩) 1 1) (hn : l.length + 1 ≤ 1048577)
    (h : ∀ aj nj cj w', GrS W.heap.size (l ++ [t]) (.slice aj nj cj) w' → Gb W w' → wpListIn F fn Tryz.prog ops Q rest (a.put o.dst (.slice aj nj cj)) w') : wpListIn F fn Tryz.prog ops Q (o :: rest) a (w.alloc (.cells (stC t).toArray 58)) := by
  obtain ⟨i, z, hi, hz, hsz, hb, hc⟩ := infoSz
  have hlt := hG.lt
  have hsB := hB.size
  subst hN
  obtain ⟨xss, hrow, hol⟩ := hG
  refine wpListIn_append_own _ hgd s x _ ho W.heap.size 58 i z 3 32 Tryz.underlying38 hi hz hsz hb hc (by omega) sl l.length xss.flatten hs (World.ownsRow.alloc hrow _) ⟨w.heap.size, 0, none⟩ 1 1 (stC t) hx rfl (fun j u hu => by
    rw [Addr.add_mid, Nat.zero_add, World.cell?_alloc_at _ _ _ _ rfl]; simpa using hu) (by simp [stC, Value.oneCell']) (by unfold maxLen; omega) (by omega) (by simp; omega) ?_
  intro v' w' hown hgr _
  have hG' : GrS W.heap.size (l ++ [t]) v' w' := ⟨xss ++ [stC t], by simpa using hown, P2.snoc (R := fun s cs => cs = stC s) rfl hol⟩
  obtain ⟨aj, cj, rfl⟩ := hG'.form
  exact h aj _ cj w' hG' (Below.trans hB (((Below.refl _ _).alloc hsB _).grown hgr (by simp; omega) (fun q hq => (hlt q hq).1)))
/-- tree.firstFault at a value -/
def FfAt (v : Vl) : Prop := ∀ (cs : List Value) (w : World), VlC w v cs → cnt v ≤ 1048576 → Calls Tryz.prog 29 #[.agg cs.toArray] w fun e w' => ∃ aj nj cj, e = .returned (.tuple #[.slice aj nj cj, .int .i64 (ffE v)]) ∧ GrS w.heap.size (ffP v).reverse (.slice aj nj cj) w' ∧ Below w.heap.size w w'
theorem GrV.kept' {E : Type} {R : E → List Value → Prop} {t : TypeId} {size B : Nat} {l : List E} {sl : Value} {w w' : World} {row : Option Nat} (h : GrV R t size B l sl w) (hg : w.grownBy w' row) (hr : ∀ r, row = some r → ∃ o : Obj, w.heap[r]? = some o ∧ o.isCells = false) : GrV R t size B l sl w' := by
  refine h.kept hg ?_
  obtain ⟨xss, h1, -⟩ := h
  rcases h1.2 with ⟨rfl, -⟩ | ⟨g, cap, cur, rfl, -, hh, -⟩
  · exact .inl rfl
  · refine .inr (fun e => ?_)
    obtain ⟨o, ho, hc⟩ := hr g e.symm
    rw [hh] at ho
    cases ho
    cases hc
theorem ff_results (tmps : Array Value) (W : World) (B1 B2 : Nat) (aj : Option Addr) (nj cj : Nat) (x : Int) (t1 : tmps[2]?.getD undef = .pointer (some ⟨B1, 0, none⟩)) (t2 : tmps[3]?.getD undef = .pointer (some ⟨B2, 0, none⟩)) (c1 : W.cell? ⟨B1, 0, none⟩ = some (.slice aj nj cj)) (c2 : W.cell? ⟨B2, 0, none⟩ = some (.int .i64 x)) :
    (results Tryz.f29 tmps).run Tryz.prog W = .ok (.tuple #[.slice aj nj cj, .int .i64 x]) W := by
  simp [results, Tryz.f29, go_sem, t1, t2, c1, c2]
set_option maxRecDepth 100000 in
set_option maxHeartbeats 4000000 in
theorem ff_step (v : Vl) (hsm : Small v) (ih : ∀ p ∈ kids v, FfAt p.2) : FfAt v := by
  intro cs w hv hcn
  have OW := hide (fun W (hb : Below w.heap.size w W) => own_ok v cs W (VlC.below hb _ _ hv) hsm)
  have hc0 := hv
  obtain ⟨kd, b, m, f, tx, ty, its, fls⟩ := v
  unfold VlC at hc0
  obtain ⟨ai, ni, ci, af, nf, cf, rfl, -⟩ := hc0
  have hsf := storeF
  refine (callsIn_wide (n := 8)).1 ?_
  refine callsIn_of_wp_marks Tryz.func29 rfl trivial ?_ rfl
  simp only [Tryz.ntmps29, List.size_toArray, List.length_cons, List.length_nil, Nat.reduceAdd, Nat.reduceSub, Array.replicate_succ, Array.replicate_zero, List.push_toArray, List.append_toArray, List.nil_append, List.cons_append]
  gi_wp2_with fail
  obtain ⟨W3, hW3⟩ : ∃ W3, W3 = ((w.alloc (.cells #[Value.int IntKind.i64 kd, Value.bool b, Value.int IntKind.i64 m, Value.float FloatKind.f64 f, Value.string tx, Value.string ty, Value.slice ai ni ci, Value.slice af nf cf] 29)).alloc (.cells #[.slice none 0 0] 38)).alloc (.cells #[.int .i64 0] 31) := ⟨_, rfl⟩
  have hB3 : Below w.heap.size w W3 := by rw [hW3]; exact (((Below.refl _ _).alloc (Nat.le_refl _) _).alloc (by simp) _).alloc (by simp; omega) _
  have s3 : W3.heap.size = w.heap.size + 3 := by rw [hW3]; simp
  have q1 : Boxed W3 (w.heap.size + 1) 38 (.slice none 0 0) := by rw [hW3]; have := (Boxed.new (w.alloc (.cells #[Value.int IntKind.i64 kd, Value.bool b, Value.int IntKind.i64 m, Value.float FloatKind.f64 f, Value.string tx, Value.string ty, Value.slice ai ni ci, Value.slice af nf cf] 29)) 38 (.slice none 0 0)).alloc (.cells #[.int .i64 0] 31); simpa using this
  have q2 : Boxed W3 (w.heap.size + 1 + 1) 31 (.int .i64 0) := by rw [hW3]; have := (Boxed.new ((w.alloc (.cells #[Value.int IntKind.i64 kd, Value.bool b, Value.int IntKind.i64 m, Value.float FloatKind.f64 f, Value.string tx, Value.string ty, Value.slice ai ni ci, Value.slice af nf cf] 29)).alloc (.cells #[.slice none 0 0] 38)) 31 (.int .i64 0)); simpa using this
  have rV : W3.rangeAt w.heap.size 0 [Value.int IntKind.i64 kd, Value.bool b, Value.int IntKind.i64 m, Value.float FloatKind.f64 f, Value.string tx, Value.string ty, Value.slice ai ni ci, Value.slice af nf cf] := fun j x hx => by
    have h0 : (w.alloc (.cells #[Value.int IntKind.i64 kd, Value.bool b, Value.int IntKind.i64 m, Value.float FloatKind.f64 f, Value.string tx, Value.string ty, Value.slice ai ni ci, Value.slice af nf cf] 29)).cell? ⟨w.heap.size, j, none⟩ = some x := by rw [World.cell?_alloc_at _ _ _ _ rfl]; simpa using hx
    have hb : Below (w.heap.size + 1) (w.alloc (.cells #[Value.int IntKind.i64 kd, Value.bool b, Value.int IntKind.i64 m, Value.float FloatKind.f64 f, Value.string tx, Value.string ty, Value.slice ai ni ci, Value.slice af nf cf] 29)) W3 := by rw [hW3]; exact ((Below.refl _ _).alloc (by simp) _).alloc (by simp) _
    rw [Nat.zero_add]
    exact (hb.cell (p := ⟨w.heap.size, j, none⟩) (Nat.lt_succ_self _)).trans h0
  rw [← hW3]
  clear hW3
  refine ⟨trivial, ?_⟩
  gi_at_call 56
  refine (callsIn_wide.2 (unhide OW W3 hB3)).mono ?_
  rintro e w1 ⟨rfl, b1⟩
  have hB1 : Below w.heap.size w w1 := hB3.trans (b1.mono (by omega))
  have s1 : w.heap.size + 3 ≤ w1.heap.size := by have := b1.size; omega
  have q1 : Boxed w1 (w.heap.size + 1) 38 (.slice none 0 0) := (b1.block _ q1.lt).trans q1
  have q2 : Boxed w1 (w.heap.size + 1 + 1) 31 (.int .i64 0) := (b1.block _ q2.lt).trans q2
  have rV1 : w1.rangeAt w.heap.size 0 [Value.int IntKind.i64 kd, Value.bool b, Value.int IntKind.i64 m, Value.float FloatKind.f64 f, Value.string tx, Value.string ty, Value.slice ai ni ci, Value.slice af nf cf] := fun j x hx => (b1.cell (p := ⟨w.heap.size, 0 + j, none⟩) (show w.heap.size < W3.heap.size by omega)).trans (rV j x hx)
  clear OW b1 rV hB3 s3
  have c1 := q1.cell
  have c2 := q2.cell
  have f1 := q1.frozen
  have f2 := q2.frozen
  by_cases hbad : flw (.mk kd b m f tx ty its fls) = 0
  · rw [hbad]
    have HB := hide hbad
    clear hbad
    obtain ⟨z0, z1, z2, z3, z4, z5, z6, z7⟩ := Row8.eight rV1
    simp only [Nat.zero_add] at z1 z2 z3 z4 z5 z6 z7
    gi_wp2_with (refine ⟨trivial, ?_⟩; gi_at_call 57; refine (children_in Fence.wide _ trivial rfl _ _).mono ?_; rintro e w' ⟨rfl, rfl⟩)
    obtain ⟨W0, hW0⟩ : ∃ W0, W0 = w1.alloc (.cells #[Value.int IntKind.i64 kd, Value.bool b, Value.int IntKind.i64 m, Value.float FloatKind.f64 f, Value.string tx, Value.string ty, Value.slice ai ni ci, Value.slice af nf cf] 29) := ⟨_, rfl⟩
    have hB0 : Below w.heap.size w W0 := by rw [hW0]; exact hB1.alloc hB1.size _
    have s0 : W0.heap.size = w1.heap.size + 1 := by rw [hW0]; simp
    have q1 : Boxed W0 (w.heap.size + 1) 38 (.slice none 0 0) := by rw [hW0]; exact q1.alloc _
    have q2 : Boxed W0 (w.heap.size + 1 + 1) 31 (.int .i64 0) := by rw [hW0]; exact q2.alloc _
    have rV : W0.rangeAt w1.heap.size 0 [Value.int IntKind.i64 kd, Value.bool b, Value.int IntKind.i64 m, Value.float FloatKind.f64 f, Value.string tx, Value.string ty, Value.slice ai ni ci, Value.slice af nf cf] := fun j x hx => by rw [hW0, Nat.zero_add, World.cell?_alloc_at _ _ _ _ rfl]; simpa using hx
    rw [← hW0]
    clear hW0 z0 z1 z2 z3 z4 z5 z6 z7 c1 c2 f1 f2 rV1
    have hsf2 := hide hsf
    clear hsf
    refine wpIn_rangeFunc_ownH (α := Kid w (kids (.mk kd b m f tx ty its fls))) rfl (by omega) (gf := 81) (lb := #[.pointer (some ⟨w1.heap.size, 0, none⟩)]) rfl trivial (enters_of Tryz.func81 (by kernel_rfl) rfl)
      (kids_stops Fence.wide (8 - 1) trivial rfl (by omega) w1.heap.size w (.mk kd b m f tx ty its fls) _ hv hsm W0 hB0 (by omega) rV) belowK_t (belowK_b (by omega)) (Below.refl _ _) (fun _ => rfl)
      (fun pre W => (Boxed W (w.heap.size + 1) 38 (.slice none 0 0) ∧ Boxed W (w.heap.size + 1 + 1) 31 (.int .i64 0)) ∧ Below w.heap.size w W ∧ ∀ x ∈ pre.map Kid.sv, ffE x.2 = 0)
      (fun c pre W => c = .ret ∧ ∃ (aj : Option Addr) (nj cj : Nat) (p : List (St × Vl)) (q : St × Vl), Boxed W (w.heap.size + 1) 38 (.slice aj nj cj) ∧ Boxed W (w.heap.size + 1 + 1) 31 (.int .i64 (ffE q.2)) ∧ GrS w.heap.size ((ffP q.2).reverse ++ [q.1]) (.slice aj nj cj) W ∧ Below w.heap.size w W ∧ pre.map Kid.sv = p ++ [q] ∧ (∀ y ∈ p, ffE y.2 = 0) ∧ ffE q.2 ≠ 0)
      (fun s X Y row hs hg hr => ⟨⟨boxed_own (β := Unit) (w.heap.size + 1) 38 (fun _ => .slice none 0 0) () X Y row hs.1.1 hg (fun r e => (hr r e).2), boxed_own (β := Unit) (w.heap.size + 1 + 1) 31 (fun _ => .int .i64 0) () X Y row hs.1.2 hg (fun r e => (hr r e).2)⟩, ownFrom_below (β := Unit) (Nat.le_refl _) hB0.size () X Y row hs.2.1 hg hr, hs.2.2⟩)
      (fun c s X Y row hs hg hr => by
        obtain ⟨rfl, aj, nj, cj, p, q, h1, h2, h3, h4, h5⟩ := hs
        exact ⟨rfl, aj, nj, cj, p, q, boxed_own (β := Unit) (w.heap.size + 1) 38 (fun _ => .slice aj nj cj) () X Y row h1 hg (fun r e => (hr r e).2), boxed_own (β := Unit) (w.heap.size + 1 + 1) 31 (fun _ => .int .i64 (ffE q.2)) () X Y row h2 hg (fun r e => (hr r e).2), h3.kept' hg (fun r e => (hr r e).2), ownFrom_below (β := Unit) (Nat.le_refl _) hB0.size () X Y row h4 hg hr, h5⟩)
      ⟨⟨q1, q2⟩, hB0, by simp⟩
      (fun x a' W => ∃ Bs Bx, Bs < W.heap.size ∧ Bx < W.heap.size ∧ W.rangeAt Bs 0 (stC x.1.1) ∧ W.rangeAt Bx 0 x.1.2.2 ∧ a' = { tmps := #[.agg #[Value.int IntKind.i64 kd, Value.bool b, Value.int IntKind.i64 m, Value.float FloatKind.f64 f, Value.string tx, Value.string ty, Value.slice ai ni ci, Value.slice af nf cf], .pointer (some ⟨w.heap.size, 0, none⟩), .pointer (some ⟨w.heap.size + 1, 0, none⟩), .pointer (some ⟨w.heap.size + 1 + 1, 0, none⟩), .int .i64 0, .pointer (some ⟨Bs, 0, none⟩), .pointer (some ⟨Bx, 0, none⟩), undef, undef, .agg #[Value.int IntKind.i64 kd, Value.bool b, Value.int IntKind.i64 m, Value.float FloatKind.f64 f, Value.string tx, Value.string ty, Value.slice ai ni ci, Value.slice af nf cf], .int .i64 0, .int .i64 0, .bool false, undef, .agg #[Value.int IntKind.i64 kd, Value.bool b, Value.int IntKind.i64 m, Value.float FloatKind.f64 f, Value.string tx, Value.string ty, Value.slice ai ni ci, Value.slice af nf cf], .func (.func 81) #[] #[.pointer (some ⟨w1.heap.size, 0, none⟩)], .agg #[.string x.1.1.nm, .int .i64 x.1.1.ix, .bool x.1.1.it], .agg x.1.2.2.toArray, undef, undef, undef, undef, undef, undef, undef, undef, undef, undef, undef, undef], defers := [] })
      (fun x a' _ X Y row hs hg hr => by obtain ⟨Bs, Bx, h2, h3, h4, h5, h6⟩ := hs; exact ⟨Bs, Bx, Nat.lt_of_lt_of_le h2 hg.size, Nat.lt_of_lt_of_le h3 hg.size, fun j u hu => cell_kept (h4 j u hu) hg (fun r e => (hr r e).2), fun j u hu => cell_kept (h5 j u hu) hg (fun r e => (hr r e).2), h6⟩)
      ?assign ?body ?done ?stop
    case assign =>
      rintro l pre x W K ⟨⟨p1, p2⟩, hBW, hz⟩ hK
      obtain ⟨⟨s, u, us⟩, hu, hm⟩ := x
      have hu' : VlC w u us := hu
      obtain ⟨ukd, ub, um, uf, utx, uty, uits, ufls⟩ := u
      unfold VlC at hu'
      obtain ⟨uai, uni, uci, uaf, unf, ucf, rfl, -⟩ := hu'
      obtain ⟨nm, ix, it⟩ := s
      unfold Kid.enc
      have hsf := unhide hsf2
      clear ih hv
      gi_wp2
      have sB := hBW.size
      refine hK _ _ (((KeepsOthers.alloc _ _).from _).trans ((KeepsOthers.alloc _ _).from _)) (((Below.refl _ W).alloc sB _).alloc (by simp; omega) _) ⟨⟨(p1.alloc _).alloc _, (p2.alloc _).alloc _⟩, (hBW.alloc sB _).alloc (by simp; omega) _, hz⟩ ⟨W.heap.size, W.heap.size + 1, by simp; omega, by simp, fun j x hx => ?_, fun j x hx => ?_, rfl⟩
      · rw [Nat.zero_add]
        refine (((Below.refl (W.heap.size + 1) (W.alloc _)).alloc (by simp) _).cell (p := ⟨W.heap.size, j, none⟩) (Nat.lt_succ_self _)).trans ?_
        rw [World.cell?_alloc_at _ _ _ _ rfl]
        simpa [stC] using hx
      · rw [Nat.zero_add, World.cell?_alloc_at _ _ _ _ (by simp)]
        simpa using hx
    case body =>
      rintro l pre x a' W hl ⟨r, hr⟩ ⟨⟨p1, p2⟩, hBW, hz⟩ ⟨Bs, Bx, hBs, hBl, hrs, hrow, rfl⟩ hlt
      obtain ⟨⟨s, u, us⟩, hu, hm⟩ := x
      have hcu : cnt u ≤ 1048576 := by
        obtain ⟨j, hj, e⟩ := List.mem_iff_getElem.1 hm
        have := cnt_kid (v := .mk kd b m f tx ty its fls) (k := j) (q := (s, u)) (by rw [← e]; exact List.getElem?_eq_getElem hj)
        simp only at this
        omega
      have IH := hide (ih (s, u) hm us W (VlC.below hBW _ _ hu) hcu)
      have hpl := hide (show (ffP u).length < cnt u from ffP_len u)
      have HPre := hide (show (pre ++ [⟨(s, u, us), hu, hm⟩] : List (Kid w (kids (.mk kd b m f tx ty its fls)))).map Kid.sv = pre.map Kid.sv ++ [(s, u)] by rw [List.map_append]; rfl)
      generalize (pre ++ [⟨(s, u, us), hu, hm⟩] : List (Kid w (kids (.mk kd b m f tx ty its fls)))) = pre' at *
      have hu' : VlC w u us := hu
      have HZ := hide hz
      have hrs : W.rangeAt Bs 0 (stC s) := hrs
      have hrow : W.rangeAt Bx 0 us := hrow
      clear hlt ih hv hz
      generalize hE : ffE u = E at *
      generalize hP : ffP u = Pu at *
      have HE := hide hE
      have HP := hide hP
      clear hE hP
      obtain ⟨ukd, ub, um, uf, utx, uty, uits, ufls⟩ := u
      unfold VlC at hu'
      obtain ⟨uai, uni, uci, uaf, unf, ucf, rfl, -⟩ := hu'
      obtain ⟨nm, ix, it⟩ := s
      obtain ⟨z0, z1, z2, z3, z4, z5, z6, z7⟩ := Row8.eight hrow
      simp only [Nat.zero_add] at z1 z2 z3 z4 z5 z6 z7
      clear hrow
      gi_wp2_with fail
      refine ⟨trivial, ?_⟩
      gi_at_call 29
      refine (CallsIn.inRound l (callsIn_wide.2 (unhide IH))).mono ?_
      rintro e w2 ⟨aj, nj, cj, rfl, hG, b2⟩
      clear z0 z1 z2 z3 z4 z5 z6 z7 IH
      by_cases h0 : E = 0
      · subst h0
        gi_wp2
        refine ⟨keepsFrom_below b2, b2.mono hBW.size, ⟨(b2.block _ p1.lt).trans p1, (b2.block _ p2.lt).trans p2⟩, hBW.trans (b2.mono hBW.size), ?_⟩
        rw [unhide HPre]
        intro y hy
        rcases List.mem_append.1 hy with hy | hy
        · exact unhide HZ y hy
        · rw [List.mem_singleton.1 hy]; exact unhide HE
      · have hE0 : (E != 0) = true := by simpa using h0
        have k0 : w2.cell? ⟨Bs, 0, none⟩ = some (.string nm) := (b2.cell (p := ⟨Bs, 0, none⟩) hBs).trans (hrs 0 _ rfl)
        have k1 : w2.cell? ⟨Bs, 1, none⟩ = some (.int .i64 ix) := (b2.cell (p := ⟨Bs, 1, none⟩) hBs).trans (hrs 1 _ rfl)
        have k2 : w2.cell? ⟨Bs, 2, none⟩ = some (.bool it) := (b2.cell (p := ⟨Bs, 2, none⟩) hBs).trans (hrs 2 _ rfl)
        have l1 := p1.lt
        have l2 := p2.lt
        have P1 := hide p1
        have P2 := hide p2
        have HG := hide hG
        have B2 := hide b2
        have hln := hide (show Pu.reverse.length + 1 ≤ 1048577 by have := unhide hpl; simp; omega)
        have H0 := hide h0
        clear p1 p2 hG b2 hrs h0
        gi_wp2_with (refine wp_lgIn (W := W) (unhide HG) (unhide B2) rfl _ _ rfl rfl ⟨nm, ix, it⟩ _ rfl rfl (unhide hln) ?_; intro a3 n3 c3 w3 hG3 b3; have c1 : w3.cell? ⟨w.heap.size + 1, 0, none⟩ = some (.slice none 0 0) := (b3.cell (p := ⟨w.heap.size + 1, 0, none⟩) l1).trans (unhide P1).cell; have c2 : w3.cell? ⟨w.heap.size + 1 + 1, 0, none⟩ = some (.int .i64 0) := (b3.cell (p := ⟨w.heap.size + 1 + 1, 0, none⟩) l2).trans (unhide P2).cell; have f1 : w3.frozen? ⟨w.heap.size + 1, 0, none⟩ = false := (b3.frozen (p := ⟨w.heap.size + 1, 0, none⟩) l1).trans (unhide P1).frozen; have f2 : w3.frozen? ⟨w.heap.size + 1 + 1, 0, none⟩ = false := (b3.frozen (p := ⟨w.heap.size + 1 + 1, 0, none⟩) l2).trans (unhide P2).frozen; have HG3 := hide hG3; have B3 := hide b3; clear hG3 b3)
        have hB3 := unhide B3
        have x1 : Boxed w3 (w.heap.size + 1) 38 (.slice none 0 0) := (hB3.block _ l1).trans (unhide P1)
        have x2 : Boxed w3 (w.heap.size + 1 + 1) 31 (.int .i64 0) := (hB3.block _ l2).trans (unhide P2)
        have hW3 : Below w.heap.size w w3 := hBW.trans (hB3.mono hBW.size)
        have hgl := (unhide HG3).lt
        have hg1 := GrV.kept (unhide HG3) (grownBy_setCell' w3 (w.heap.size + 1) (.slice a3 n3 c3)) (.inr (fun e => by have := (hgl _ e).1; omega))
        have hg2 := GrV.kept hg1 (grownBy_setCell' (w3.setCell ⟨w.heap.size + 1, 0, none⟩ (.slice a3 n3 c3)) (w.heap.size + 1 + 1) (.int .i64 E)) (.inr (fun e => by have := (hgl _ e).1; omega))
        refine ⟨((keepsFrom_below hB3).trans ((KeepsOthers.setCell _ _ _).from _)).trans ((KeepsOthers.setCell _ _ _).from _), rfl, a3, n3, c3, pre.map Kid.sv, (⟨nm, ix, it⟩, .mk ukd ub um uf utx uty uits ufls), (x1.set _).other (by omega) _, ?_, ?_, ?_, unhide HPre, unhide HZ, ?_⟩
        · show Boxed _ _ _ (.int .i64 (ffE _))
          rw [unhide HE]
          exact (x2.other (by omega) _).set _
        · show GrS _ ((ffP _).reverse ++ _) _ _
          rw [unhide HP]
          exact GrS.older hg2 hBW.size
        · exact (hW3.setCell (p := ⟨w.heap.size + 1, 0, none⟩) (Nat.le_succ _) _).setCell (p := ⟨w.heap.size + 1 + 1, 0, none⟩) (by show w.heap.size ≤ w.heap.size + 1 + 1; omega) _
        · show ffE _ ≠ 0
          rw [unhide HE]
          exact unhide H0
    case done =>
      rintro D xs W hD hxs ⟨⟨p1, p2⟩, hBW, hz⟩ hK
      have c1 := p1.cell
      have c2 := p2.cell
      have f1 := p1.frozen
      have f2 := p2.frozen
      obtain ⟨e1, e2⟩ := ff_done (unhide HB) (fun q hq => hz q (by rw [hxs]; exact hq))
      have E1 := hide e1
      have E2 := hide e2
      have P1 := hide p1
      have P2 := hide p2
      have hn1 : w.heap.size + 1 ≠ D := by have := q1.lt; omega
      have hn2 : w.heap.size + 1 + 1 ≠ D := by have := q2.lt; omega
      clear e1 e2 p1 p2 hz hxs
      gi_wp2
      have hK' := (KeepsOthers.setCell (W.setCell ⟨w.heap.size + 1, 0, none⟩ (.slice none 0 0)) ⟨w.heap.size + 1 + 1, 0, none⟩ (.int .i64 0)).same D _ ((KeepsOthers.setCell W ⟨w.heap.size + 1, 0, none⟩ (.slice none 0 0)).same D _ hK rfl) rfl
      refine ⟨by simp, .inl ⟨_, _, rfl, run_takeDeferred hK', ?_⟩⟩
      refine ⟨_, ff_results _ _ (w.heap.size + 1) (w.heap.size + 1 + 1) none 0 0 0 rfl rfl ((((unhide P1).set _).other (by omega) _).kept (grownBy_putObj' _ D _) (fun e => hn1 (by cases e; rfl))).cell ((((unhide P2).other (by omega) _).set _).kept (grownBy_putObj' _ D _) (fun e => hn2 (by cases e; rfl))).cell, none, 0, 0, by rw [unhide E2], by rw [unhide E1]; exact GrV.nil, ?_⟩
      exact ((hBW.setCell (p := ⟨w.heap.size + 1, 0, none⟩) (Nat.le_succ _) _).setCell (p := ⟨w.heap.size + 1 + 1, 0, none⟩) (by show w.heap.size ≤ w.heap.size + 1 + 1; omega) _).trans (belowK_b (w := w) (Nat.le_refl _) _ D _ _ (by have := hB0.size; omega) hK' rfl rfl)
    case stop =>
      rintro D c pre W hD ⟨k, hk, hpre⟩ ⟨rfl, aj, nj, cj, p, q, h1, h2, h3, h4, h5, h6, h7⟩ hK
      obtain ⟨e1, e2⟩ := ff_stop (unhide HB) (h5.symm.trans hpre) h6 h7
      have hn1 : w.heap.size + 1 ≠ D := by have := q1.lt; omega
      have hn2 : w.heap.size + 1 + 1 ≠ D := by have := q2.lt; omega
      gi_wp2
      refine ⟨by simp, .inl ⟨_, _, rfl, run_takeDeferred hK, ?_⟩⟩
      refine ⟨_, ff_results _ _ (w.heap.size + 1) (w.heap.size + 1 + 1) aj nj cj (ffE q.2) rfl rfl (h1.kept (grownBy_putObj' _ D _) (fun e => hn1 (by cases e; rfl))).cell (h2.kept (grownBy_putObj' _ D _) (fun e => hn2 (by cases e; rfl))).cell, aj, nj, cj, by rw [e2], ?_, ?_⟩
      · rw [e1, List.reverse_cons]
        exact h3.kept' (grownBy_putObj' _ D _) (fun r e => by cases e; exact ⟨_, hK, rfl⟩)
      · exact h4.trans (belowK_b (w := w) (Nat.le_refl _) _ D _ _ (by have := hB0.size; omega) hK rfl rfl)
  · obtain ⟨e1, e2⟩ := ff_own hbad
    generalize flw (.mk kd b m f tx ty its fls) = R at *
    have E1 := hide e1
    have E2 := hide e2
    have hR : (R != 0) = true := by simpa using hbad
    have Q1 := hide q1
    have Q2 := hide q2
    have S1 := hide s1
    clear e1 e2 hsm hbad hcn rV1 q1 q2 ih s1
    gi_wp2
    refine ⟨_, ff_results _ _ (w.heap.size + 1) (w.heap.size + 1 + 1) none 0 0 R rfl rfl (((unhide Q1).set _).other (by omega) _).cell (((unhide Q2).other (by omega) _).set _).cell, none, 0, 0, by rw [unhide E2], by rw [unhide E1]; exact GrV.nil, ?_⟩
    exact (hB1.setCell (p := ⟨w.heap.size + 1, 0, none⟩) (Nat.le_succ _) _).setCell (p := ⟨w.heap.size + 1 + 1, 0, none⟩) (by show w.heap.size ≤ w.heap.size + 1 + 1; omega) _
theorem ff_ok : ∀ v : Vl, Small v → FfAt v := by
  refine Vl.all ?_
  intro kd b n f tx ty its fls hI hF hsm
  have hs := hsm
  unfold Small at hs
  obtain ⟨-, -, -, hsI, hsF⟩ := hs
  exact ff_step _ hsm (mem_kids (P := FfAt) (fun v hv => hI v hv (hsI.all v hv)) (fun q hq => hF q hq (hsF.all q hq)))
end Go.Proofs.YtechaplindbfoaaGreatDoor.og
