import Derived.Test.YtlgmonphhimbdaaDoorTbh
namespace Go.Proofs.YtlgmonphhimbdaaDoor.tab
open Go.ChangeShapes Go.WideShapes Go.ChangeAt Go.RowKit Go.Maps Go.Shelf
open wk
attribute [local go_sem] Oper.semAt_some
set_option linter.unusedVariables false
set_option linter.unusedSimpArgs false
theorem storeFn (x : Value) (a : Addr) (w : World) (m : Mode) : (store a (.func (.func 28) #[] #[x]) m).run Tryd.prog w = stored Tryd.prog w a (.func (.func 28) #[] #[x]) m := run_store _ _ _ _ _ rfl
theorem bx_alloc {W : World} {B : Nat} {t : TypeId} {v : Value} (h : Boxed W B t v) (o : Obj) : Boxed (W.alloc o) B t v := h.alloc o
set_option maxRecDepth 100000 in
set_option maxHeartbeats 1000000 in
theorem ranged_ok {w : World} {B : Nat} {F : Nat → Prop} {b : Nat} {M : Option Nat} {rs : List Rw} {nx : Nat} {N : Nat → Prop} {u : Value} {ps : List Pr} (limit : Int) (h : Tb w B F b M rs nx) (hR : Rel rs ps) (hL : RL w N u ps) (hn : ps.length ≤ 1048576) (hT : Tw w.heap.size w) :
    Calls Tryd.prog 9 #[.pointer (some ⟨b, 0, none⟩), u, .int .i64 limit] w fun e w' => e = .returned (.bool true) ∧ Below w.heap.size w w' := by
  obtain ⟨a, c, rfl, h1⟩ := hL
  obtain ⟨q, hq⟩ : ∃ q, q = ps.length := ⟨_, rfl⟩
  rw [← hq]
  have hqb : q ≤ 1048576 := by omega
  refine (callsIn_wide (n := 8)).1 ?_
  refine callsIn_of_wp_marks Tryd.func9 rfl trivial ?_ rfl
  simp only [Tryd.ntmps9, List.size_toArray, List.length_cons, List.length_nil, Nat.reduceAdd, Nat.reduceSub, Array.replicate_succ, Array.replicate_zero, List.push_toArray, List.append_toArray, List.nil_append, List.cons_append]
  have HH := hide h
  have HR := hide hR
  have H1 := hide h1
  have HT := hide hT
  have HQ := hide hq
  clear h hR h1 hT hn hq
  gi_wp2_with fail
  refine ⟨trivial, (all_any Fence.wide 7 trivial rfl _ _).mono ?_⟩
  rintro e w' ⟨rfl, hw'⟩
  have hfn := funcNil
  obtain ⟨w4, e4⟩ : ∃ w4, w4 = (((w.alloc (Obj.cells #[Value.slice a q c] 29)).alloc (Obj.cells #[Value.int IntKind.i64 limit] 3)).alloc (Obj.cells #[Value.bool false] 4)).alloc (Obj.cells #[Value.int IntKind.i64 0] 3) := ⟨_, rfl⟩
  have s4 : w4.heap.size = w.heap.size + 4 := by rw [e4]; simp
  have b4 : Below w.heap.size w w4 := by rw [e4]; exact ((((Below.refl _ _).alloc (Nat.le_refl _) _).alloc (by simp) _).alloc (by simp; omega) _).alloc (by simp; omega) _
  have x0 : Boxed w4 w.heap.size 29 (.slice a q c) := by rw [e4]; exact (((Boxed.new w _ _).alloc _).alloc _).alloc _
  have x1 : Boxed w4 (w.heap.size + 1) 3 (.int .i64 limit) := by rw [e4]; have := Boxed.new (w.alloc (Obj.cells #[Value.slice a q c] 29)) 3 (.int .i64 limit); rw [World.size_alloc] at this; exact (this.alloc _).alloc _
  have x2 : Boxed w4 (w.heap.size + 1 + 1) 4 (.bool false) := by rw [e4]; have := Boxed.new ((w.alloc (Obj.cells #[Value.slice a q c] 29)).alloc (Obj.cells #[Value.int IntKind.i64 limit] 3)) 4 (.bool false); rw [World.size_alloc, World.size_alloc] at this; exact this.alloc _
  have x3 : Boxed w4 (w.heap.size + 1 + 1 + 1) 3 (.int .i64 0) := by rw [e4]; have := Boxed.new (((w.alloc (Obj.cells #[Value.slice a q c] 29)).alloc (Obj.cells #[Value.int IntKind.i64 limit] 3)).alloc (Obj.cells #[Value.bool false] 4)) 3 (.int .i64 0); rw [World.size_alloc, World.size_alloc, World.size_alloc] at this; exact this
  rw [← e4] at hw' ⊢
  have s5 : w'.heap.size = w4.heap.size + 1 := by rw [hw']; simp
  have b5 : Below w4.heap.size w4 w' := by rw [hw']; exact (Below.refl _ _).alloc (Nat.le_refl _) _
  have x4 : Boxed w' w4.heap.size 23 (.pointer (some ⟨b, 0, none⟩)) := by rw [hw']; exact Boxed.new _ _ _
  obtain ⟨U, hU⟩ : ∃ U, U = w'.alloc (.cells #[.func (.func 28) #[] #[.pointer (some ⟨w4.heap.size, 0, none⟩)]] 55) := ⟨_, rfl⟩
  have s6 : U.heap.size = w'.heap.size + 1 := by rw [hU]; simp
  have b6 : Below w'.heap.size w' U := by rw [hU]; exact (Below.refl _ _).alloc (Nat.le_refl _) _
  have x5 : Boxed U w'.heap.size 55 (.func (.func 28) #[] #[.pointer (some ⟨w4.heap.size, 0, none⟩)]) := by rw [hU]; exact Boxed.new _ _ _
  have b46 : Below w4.heap.size w4 U := b5.trans (b6.mono b5.size)
  have E : RoE w U B F b M rs nx ps a q c limit w.heap.size (w.heap.size + 1) (w.heap.size + 1 + 1 + 1) w4.heap.size w'.heap.size :=
    ⟨b4.trans (b46.mono b4.size), by omega, by omega, (b46.block _ x0.lt).trans x0, (b46.block _ x1.lt).trans x1, (b6.block _ x4.lt).trans x4, x5, by omega, by omega, by omega, by omega, unhide HH, unhide HR, unhide HQ, hqb, (unhide H1).imp id (fun ⟨p, h1, h2, _, h3⟩ => ⟨p, h1, h2, h3⟩), unhide HT⟩
  have I0 : RoI U (w.heap.size + 1 + 1 + 1) 0 U := ⟨rfl, rfl, rfl, Nat.le_refl _, (b46.block _ x3.lt).trans x3, fun _ _ _ => rfl⟩
  have xR : Boxed U (w.heap.size + 1 + 1) 4 (.bool false) := (b46.block _ x2.lt).trans x2
  have c5 := x5.cell
  rw [hU] at c5
  have HE := hide E
  have HI0 := hide I0
  have HX := hide xR
  have SU := hide (show U.heap.size = w.heap.size + 6 by omega)
  have S4 := hide s4
  have S5 := hide s5
  have HU := hide hU
  clear E I0 xR x0 x1 x2 x3 x4 x5 b4 b5 b6 b46 s4 s5 s6 hU e4 hw'
  have hsf := storeFn
  gi_wp2_with fail
  clear hfn hsf c5
  rw [← unhide HU]
  have sU := unhide SU
  have s4 := unhide S4
  have s5 := unhide S5
  refine wpT_H (α := ByteArray × Int) rfl (by decide) (gf := 28) (lb := #[.pointer (some ⟨w4.heap.size, 0, none⟩)]) (encs := encE) (Rd := RdE (U.heap.size + 2)) (C := CE) (Kp := KpE (U.heap.size + 2)) (S := fun xs => xs = ents rs) (Sp := SpE (ents rs)) (Nx := NxE (ents rs)) rfl trivial (enters_of Tryd.func28 (by kernel_rfl) rfl)
    ?seq (fun A A' hc k _ h2 h3 => hc.block k h3) (fun x {A A' A''} h1 h2 => ⟨Nat.le_trans h1.1 h2.1, h2.2.trans h1.2⟩) (fun x W o o' _ => ⟨by simp, World.putObj_heap_other (by omega)⟩) (fun x => rfl)
    (RoJ U (w.heap.size + 1 + 1 + 1) limit) (RoX U (w.heap.size + 1 + 1 + 1) limit) (fun pre A A' h hc => ⟨h.1.below (by omega) hc, h.2⟩) (fun c pre A A' h hc => ⟨h.1, h.2.1, h.2.2.1, h.2.2.2.below (by omega) hc⟩)
    (fun pre A A' row h hg hr => ⟨h.1.keep (by omega) hg.os hg.tape hg.output hg.size (fun j hj => hg.block j (by have := h.1.size; omega) (fun e => by have := (hr j e.symm).1; omega)), h.2⟩)
    (fun c pre A A' row h hg hr => ⟨h.1, h.2.1, h.2.2.1, h.2.2.2.keep (by omega) hg.os hg.tape hg.output hg.size (fun j hj => hg.block j (by have := h.2.2.2.size; omega) (fun e => by have := (hr j e.symm).1; omega))⟩)
    ⟨unhide HI0, fun h => by show (0 : Int) < limit; omega⟩ (fun x a' W => U.heap.size + 4 ≤ W.heap.size ∧ a' = { tmps := #[.pointer (some ⟨b, 0, none⟩), .slice a q c, .int .i64 limit, undef, .pointer (some ⟨w.heap.size, 0, none⟩), .pointer (some ⟨w.heap.size + 1, 0, none⟩), .pointer (some ⟨w.heap.size + 1 + 1, 0, none⟩), .pointer (some ⟨w.heap.size + 1 + 1 + 1, 0, none⟩), .pointer (some ⟨w'.heap.size, 0, none⟩), .string x.1, .int .i64 x.2, undef, undef, .pointer (some ⟨b, 0, none⟩), .func (.func 28) #[] #[.pointer (some ⟨w4.heap.size, 0, none⟩)], .func (.func 28) #[] #[.pointer (some ⟨w4.heap.size, 0, none⟩)], .bool false, .func (.func 28) #[] #[.pointer (some ⟨w4.heap.size, 0, none⟩)], .string x.1, .int .i64 x.2, undef, undef, undef, undef, undef, undef, undef, undef, undef, undef, undef, undef, undef, undef, undef, undef, undef, undef, undef, undef, undef, undef, undef, undef, undef, undef, undef, undef, undef, undef, undef, undef, undef, undef, undef, undef, undef, undef, undef, undef, undef, undef, undef, undef, undef, undef, undef, undef, undef, undef, undef, undef, undef, undef, undef, undef, undef, undef, undef, undef, undef, undef, undef, undef, undef, undef, undef, undef], defers := [] }) (fun x a' _ W W' row hs hg hr => ⟨Nat.le_trans hs.1 hg.size, hs.2⟩) ?assign ?body ?done ?stop
  case seq =>
    intro W1 hb hs
    have := all_seq ((unhide HH).below ((unhide HE).bw.trans (hb.mono (unhide HE).bw.size))) (by have := (unhide HR).len; have := unhide HQ; omega) 7 (by decide) (Bo := w4.heap.size) ((hb.cell (p := ⟨w4.heap.size, 0, none⟩) (by show w4.heap.size < U.heap.size; omega)).trans (unhide HE).o.cell)
    rw [hs] at this
    exact this
  case assign =>
    intro l pre x W K hI hR hN hK
    have HI := hide hI
    have HRd := hide hR
    clear hI hR hN s4 s5 sU
    unfold encE
    gi_wp2
    exact hK _ _ (KeepsFrom.refl _ _) ⟨Nat.le_refl _, rfl⟩ (unhide HI) ⟨unhide HRd, rfl⟩
  case body =>
    rintro l pre x a' W hl hlr hI ⟨hsz, rfl⟩ hnx
    exact ro_body (unhide HE) hI hnx (by decide) hlr (by omega) (by omega)
  case done =>
    rintro D xs W hD1 hD2 rfl hJ hK
    obtain ⟨hI, hlim⟩ := hJ
    have hlen : (ents rs).length = q := by rw [ents_len, (unhide HR).len, ← unhide HQ]
    rw [hlen] at hI hlim
    have cn := hI.nbx.cell
    have cl : W.cell? ⟨w.heap.size, 0, none⟩ = some (.slice a q c) := (hI.box (unhide HE).l (by omega)).cell
    have cm : W.cell? ⟨w.heap.size + 1, 0, none⟩ = some (.int .i64 limit) := (hI.box (unhide HE).m (by omega)).cell
    have xr := hI.box (unhide HX) (by omega)
    have cr := xr.cell
    have fr := xr.frozen
    have BW := hide (hI.bel (w := w) (unhide HE).bw (by omega))
    have uD := unhide SU
    clear hI xr hlen HE HI0 HX HH HR H1 HT HU s4 s5 sU
    have HD := hide hD1
    clear uD hD1 hD2
    by_cases h1 : 1 ≤ limit
    · have h2 := hlim h1
      have h3 : ¬ limit < (q : Int) := by omega
      clear hlim h2
      gi_wp2
      have hD1 := unhide HD
      have hK' : (W.setCell ⟨w.heap.size + 1 + 1, 0, none⟩ (.bool true)).heap[D]? = some (.deferred (some [])) := (KeepsOthers.setCell W _ _).same D _ hK rfl
      have hc' := cell_kept (World.cell?_setCell_same _ ⟨w.heap.size + 1 + 1, 0, none⟩ (.bool true) cr) (grownBy_putObj' _ D (.deferred none)) (fun r e => by cases e; exact ⟨_, hK', rfl⟩)
      refine ⟨by simp, .inl ⟨_, _, rfl, run_takeDeferred hK', ?_⟩⟩
      refine ⟨.bool true, ?_, rfl, ((unhide BW).setCell (p := ⟨w.heap.size + 1 + 1, 0, none⟩) (by show w.heap.size ≤ w.heap.size + 1 + 1; omega) _).trans (belowK_b (w := w) (Nat.le_refl _) _ D _ _ (by have := unhide SU; omega) hK' rfl rfl)⟩
      simp [results, Tryd.f9, go_sem, hc']
    · clear hlim
      gi_wp2
      have hD1 := unhide HD
      have hK' : (W.setCell ⟨w.heap.size + 1 + 1, 0, none⟩ (.bool true)).heap[D]? = some (.deferred (some [])) := (KeepsOthers.setCell W _ _).same D _ hK rfl
      have hc' := cell_kept (World.cell?_setCell_same _ ⟨w.heap.size + 1 + 1, 0, none⟩ (.bool true) cr) (grownBy_putObj' _ D (.deferred none)) (fun r e => by cases e; exact ⟨_, hK', rfl⟩)
      refine ⟨by simp, .inl ⟨_, _, rfl, run_takeDeferred hK', ?_⟩⟩
      refine ⟨.bool true, ?_, rfl, ((unhide BW).setCell (p := ⟨w.heap.size + 1 + 1, 0, none⟩) (by show w.heap.size ≤ w.heap.size + 1 + 1; omega) _).trans (belowK_b (w := w) (Nat.le_refl _) _ D _ _ (by have := unhide SU; omega) hK' rfl rfl)⟩
      simp [results, Tryd.f9, go_sem, hc']
  case stop =>
    rintro D cc pre W hD1 hD2 hSp ⟨rfl, hpl, h1, hI⟩ hK
    obtain ⟨kk, hkk, hpre⟩ := hSp
    have hlen : (ents rs).length = q := by rw [ents_len, (unhide HR).len, ← unhide HQ]
    have hpq : pre.length ≤ q := by rw [hpre, List.length_take]; omega
    obtain ⟨m, hm⟩ : ∃ m, m = pre.length := ⟨_, rfl⟩
    rw [← hm] at hpl hI hpq
    subst hpl
    have cn := hI.nbx.cell
    have cl : W.cell? ⟨w.heap.size, 0, none⟩ = some (.slice a q c) := (hI.box (unhide HE).l (by omega)).cell
    have cm : W.cell? ⟨w.heap.size + 1, 0, none⟩ = some (.int .i64 (m : Int)) := (hI.box (unhide HE).m (by omega)).cell
    have xr := hI.box (unhide HX) (by omega)
    have cr := xr.cell
    have fr := xr.frozen
    have BW := hide (hI.bel (w := w) (unhide HE).bw (by omega))
    clear hI xr hlen HE HI0 HX HH HR H1 HT HU s4 s5 sU hm hpre hkk
    have HD := hide hD1
    clear hD1 hD2
    by_cases hmq : m < q
    · have h2 : (m : Int) < (q : Int) := by omega
      clear hpq
      gi_wp2
      have hD1 := unhide HD
      have hK' : (W.setCell ⟨w.heap.size + 1 + 1, 0, none⟩ (.bool true)).heap[D]? = some (.deferred (some [])) := (KeepsOthers.setCell W _ _).same D _ hK rfl
      have hc' := cell_kept (World.cell?_setCell_same _ ⟨w.heap.size + 1 + 1, 0, none⟩ (.bool true) cr) (grownBy_putObj' _ D (.deferred none)) (fun r e => by cases e; exact ⟨_, hK', rfl⟩)
      refine ⟨by simp, .inl ⟨_, _, rfl, run_takeDeferred hK', ?_⟩⟩
      refine ⟨.bool true, ?_, rfl, ((unhide BW).setCell (p := ⟨w.heap.size + 1 + 1, 0, none⟩) (by show w.heap.size ≤ w.heap.size + 1 + 1; omega) _).trans (belowK_b (w := w) (Nat.le_refl _) _ D _ _ (by have := unhide SU; omega) hK' rfl rfl)⟩
      simp [results, Tryd.f9, go_sem, hc']
    · obtain rfl : m = q := by omega
      have h2 : ¬ (m : Int) < (m : Int) := by omega
      clear hpq hmq
      gi_wp2
      have hD1 := unhide HD
      have hK' : (W.setCell ⟨w.heap.size + 1 + 1, 0, none⟩ (.bool true)).heap[D]? = some (.deferred (some [])) := (KeepsOthers.setCell W _ _).same D _ hK rfl
      have hc' := cell_kept (World.cell?_setCell_same _ ⟨w.heap.size + 1 + 1, 0, none⟩ (.bool true) cr) (grownBy_putObj' _ D (.deferred none)) (fun r e => by cases e; exact ⟨_, hK', rfl⟩)
      refine ⟨by simp, .inl ⟨_, _, rfl, run_takeDeferred hK', ?_⟩⟩
      refine ⟨.bool true, ?_, rfl, ((unhide BW).setCell (p := ⟨w.heap.size + 1 + 1, 0, none⟩) (by show w.heap.size ≤ w.heap.size + 1 + 1; omega) _).trans (belowK_b (w := w) (Nat.le_refl _) _ D _ _ (by have := unhide SU; omega) hK' rfl rfl)⟩
      simp [results, Tryd.f9, go_sem, hc']
end Go.Proofs.YtlgmonphhimbdaaDoor.tab
