import Derived.Test.YthpcpminikmcbaaTws9
namespace Go.Proofs.Ythpcpminikmcbaa.og
open Go.ChangeShapes Go.WideShapes Go.ChangeAt Go.RowKit Go.Shelf
open vl hiding cB cFl cS cF cI cK cIt
open stp (St Pth St3)
open wk
attribute [local go_sem] Oper.semAt_some
set_option linter.unusedVariables false
set_option linter.unusedSimpArgs false
theorem storeFn (x y : Value) (a : Addr) (w : World) (m : Mode) : (store a (.func (.func 56) #[] #[x, y]) m).run Try.prog w = stored Try.prog w a (.func (.func 56) #[] #[x, y]) m := run_store _ _ _ _ _ rfl
set_option maxRecDepth 100000 in
set_option maxHeartbeats 1000000 in
theorem law_walks (v : Vl) (cs : List Value) (stop : Int) (w : World) (hv : VlC w v cs) (hsm : Small v) (hcn : cnt v ≤ 1048576) : Calls Try.prog 4 #[.agg cs.toArray, .int .i64 stop] w fun e w' => e = .returned (.bool true) ∧ Below w.heap.size w w' := by
  have PA := hide (fun W (hb : Below w.heap.size w W) => rparts_ok v cs W (VlC.below hb _ _ hv) hsm hcn)
  have WA := hide (walk_ok v hsm)
  have WI := hide (fun (n : Nat) (hn : 1 ≤ n) (W : World) => walk_in Fence.wide n trivial trivial rfl hn v cs W w hv)
  have hc0 := hv
  obtain ⟨V, eV⟩ : ∃ V, V = v := ⟨_, rfl⟩
  have HV := hide (show VlC w V cs by rw [eV]; exact hv)
  have HSm := hide (show Small V by rw [eV]; exact hsm)
  have HCn := hide (show cnt V ≤ 1048576 by rw [eV]; exact hcn)
  rw [← eV] at WA PA
  clear hv
  have EV := hide eV
  clear eV
  obtain ⟨kd, b, m, f, tx, ty, its, fls⟩ := v
  unfold VlC at hc0
  obtain ⟨ai, ni, ci, af, nf, cf, rfl, -⟩ := hc0
  have hsf := storeF
  refine (callsIn_wide (n := 8)).1 ?_
  refine callsIn_of_wp_marks Try.func4 rfl trivial ?_ rfl
  simp only [Try.ntmps4, List.size_toArray, List.length_cons, List.length_nil, Nat.reduceAdd, Nat.reduceSub, Array.replicate_succ, Array.replicate_zero, List.push_toArray, List.append_toArray, List.nil_append, List.cons_append]
  gi_wp2_with fail
  obtain ⟨V1, eV1⟩ : ∃ V1, V1 = ((w.alloc (.cells #[Value.int IntKind.i64 kd, Value.bool b, Value.int IntKind.i64 m, Value.float FloatKind.f64 f, Value.string tx, Value.string ty, Value.slice ai ni ci, Value.slice af nf cf] 27)).alloc (.cells #[.int .i64 stop] 3)).alloc (.cells #[.bool false] 4) := ⟨_, rfl⟩
  have b1 : Below w.heap.size w V1 := by rw [eV1]; exact (((Below.refl _ _).alloc (Nat.le_refl _) _).alloc (by simp) _).alloc (by simp <;> omega) _
  have s1 : V1.heap.size = w.heap.size + 3 := by rw [eV1]; simp
  have p1 : Boxed V1 (w.heap.size + 1) 3 (.int .i64 stop) := by rw [eV1]; have := (Boxed.new (w.alloc (.cells #[Value.int IntKind.i64 kd, Value.bool b, Value.int IntKind.i64 m, Value.float FloatKind.f64 f, Value.string tx, Value.string ty, Value.slice ai ni ci, Value.slice af nf cf] 27)) 3 (.int .i64 stop)).alloc (.cells #[.bool false] 4); simpa using this
  have q1 : Boxed V1 (w.heap.size + 1 + 1) 4 (.bool false) := by rw [eV1]; have := Boxed.new ((w.alloc (.cells #[Value.int IntKind.i64 kd, Value.bool b, Value.int IntKind.i64 m, Value.float FloatKind.f64 f, Value.string tx, Value.string ty, Value.slice ai ni ci, Value.slice af nf cf] 27)).alloc (.cells #[.int .i64 stop] 3)) 4 (.bool false); simpa using this
  have r1 : V1.rangeAt w.heap.size 0 [Value.int IntKind.i64 kd, Value.bool b, Value.int IntKind.i64 m, Value.float FloatKind.f64 f, Value.string tx, Value.string ty, Value.slice ai ni ci, Value.slice af nf cf] := fun j x hx => by
    rw [Nat.zero_add, eV1]
    refine ((((Below.refl (w.heap.size + 1) (w.alloc (.cells #[Value.int IntKind.i64 kd, Value.bool b, Value.int IntKind.i64 m, Value.float FloatKind.f64 f, Value.string tx, Value.string ty, Value.slice ai ni ci, Value.slice af nf cf] 27))).alloc (by simp) _).alloc (by simp <;> omega) _).cell (p := ⟨w.heap.size, j, none⟩) (Nat.lt_succ_self _)).trans ?_
    rw [World.cell?_alloc_at _ _ _ _ rfl]
    simpa using hx
  rw [← eV1]
  clear eV1
  refine ⟨trivial, ?_⟩
  gi_at_call 12
  refine (callsIn_wide.2 (known_ok V1)).mono ?_
  rintro e U1 ⟨rfl, g1⟩
  have b2 : Below w.heap.size w U1 := b1.trans (g1.mono b1.size)
  have r2 : U1.rangeAt w.heap.size 0 [Value.int IntKind.i64 kd, Value.bool b, Value.int IntKind.i64 m, Value.float FloatKind.f64 f, Value.string tx, Value.string ty, Value.slice ai ni ci, Value.slice af nf cf] := Row8.below r1 g1
  have p2 : Boxed U1 (w.heap.size + 1) 3 (.int .i64 stop) := (g1.block _ p1.lt).trans p1
  have q2 : Boxed U1 (w.heap.size + 1 + 1) 4 (.bool false) := (g1.block _ q1.lt).trans q1
  have s2 : w.heap.size + 3 ≤ U1.heap.size := by have := g1.size; omega
  clear b1 s1 q1 p1 r1 g1
  obtain ⟨z0, z1, z2, z3, z4, z5, z6, z7⟩ := Row8.eight r2
  simp only [Nat.zero_add] at z1 z2 z3 z4 z5 z6 z7
  gi_wp2_with fail
  refine ⟨trivial, ?_⟩
  gi_at_call 13
  refine (callsIn_wide.2 (unhide PA U1 b2)).mono ?_
  rintro e U2 ⟨a, N, c, G, rfl, hGr, g2⟩
  clear z0 z1 z2 z3 z4 z5 z6 z7 PA
  have HGr := hide hGr
  have hNN : N = (pts V []).length := by
    obtain ⟨xss, hr, -⟩ := hGr.row
    rcases hr.2 with ⟨e, h0⟩ | ⟨g, cap, cur, e, -⟩
    · simp only [Value.slice.injEq] at e
      rw [h0]; exact e.2.1
    · simp only [Value.slice.injEq] at e
      exact e.2.1
  have HNN := hide hNN
  clear hNN
  have HG2 := hide g2
  have HB2 := hide b2
  have b3 : Below w.heap.size w U2 := b2.trans (g2.mono b2.size)
  have r3 : U2.rangeAt w.heap.size 0 [Value.int IntKind.i64 kd, Value.bool b, Value.int IntKind.i64 m, Value.float FloatKind.f64 f, Value.string tx, Value.string ty, Value.slice ai ni ci, Value.slice af nf cf] := Row8.below r2 g2
  have p3 : Boxed U2 (w.heap.size + 1) 3 (.int .i64 stop) := (g2.block _ p2.lt).trans p2
  have q3 : Boxed U2 (w.heap.size + 1 + 1) 4 (.bool false) := (g2.block _ q2.lt).trans q2
  have s3 : w.heap.size + 3 ≤ U2.heap.size := by have := g2.size; omega
  clear b2 r2 p2 q2 s2 g2 hGr
  obtain ⟨U3, eU3⟩ : ∃ U3, U3 = U2.alloc (.cells #[.slice a N c] 38) := ⟨_, rfl⟩
  have g3 : Below U2.heap.size U2 U3 := by rw [eU3]; exact (Below.refl _ _).alloc (Nat.le_refl _) _
  have b4 : Below w.heap.size w U3 := b3.trans (g3.mono b3.size)
  have r4 : U3.rangeAt w.heap.size 0 [Value.int IntKind.i64 kd, Value.bool b, Value.int IntKind.i64 m, Value.float FloatKind.f64 f, Value.string tx, Value.string ty, Value.slice ai ni ci, Value.slice af nf cf] := Row8.below r3 g3
  obtain ⟨z0, z1, z2, z3, z4, z5, z6, z7⟩ := Row8.eight r4
  simp only [Nat.zero_add] at z1 z2 z3 z4 z5 z6 z7
  have EU3 := hide eU3
  rw [eU3] at z0 z1 z2 z3 z4 z5 z6 z7
  clear eU3
  gi_wp2_with fail
  rw [← unhide EU3]
  clear z0 z1 z2 z3 z4 z5 z6 z7
  refine ⟨trivial, ?_⟩
  gi_at_call 14
  refine (unhide WI _ (by omega) U3).mono ?_
  rintro e w' ⟨rfl, rfl⟩
  have hfn := fn_nil
  have hsfn := storeFn
  gi_wp2_with fail
  clear hfn hsfn
  obtain ⟨U4, eU4⟩ : ∃ U4, U4 = ((((U3.alloc (.cells #[Value.int IntKind.i64 kd, Value.bool b, Value.int IntKind.i64 m, Value.float FloatKind.f64 f, Value.string tx, Value.string ty, Value.slice ai ni ci, Value.slice af nf cf] 27)).alloc (.cells #[Value.slice none 0 0] 29)).alloc (.cells #[Value.int IntKind.i64 kd, Value.bool b, Value.int IntKind.i64 m, Value.float FloatKind.f64 f, Value.string tx, Value.string ty, Value.slice ai ni ci, Value.slice af nf cf] 27)).alloc (.cells #[.func (.func 56) #[] #[.pointer (some ⟨U3.heap.size + 1, 0, none⟩), .pointer (some ⟨U3.heap.size + 2, 0, none⟩)]] 41)).alloc (.cells #[.int .i64 0] 3) := ⟨_, rfl⟩
  try simp only [World.size_alloc, Nat.add_assoc, Nat.reduceAdd]
  rename_i K hK
  rw [← eU4]
  have g4 : Below U3.heap.size U3 U4 := by rw [eU4]; exact (((((Below.refl _ _).alloc (Nat.le_refl _) _).alloc (by simp) _).alloc (by simp <;> omega) _).alloc (by simp <;> omega) _).alloc (by simp <;> omega) _
  have s34 : U4.heap.size ≤ U3.heap.size + 5 := by rw [eU4]; simp
  have s34' : U3.heap.size + 5 ≤ U4.heap.size := by rw [eU4]; simp
  have s23 : U3.heap.size ≤ U2.heap.size + 1 := by rw [unhide EU3]; simp
  have s23' : U2.heap.size + 1 ≤ U3.heap.size := by rw [unhide EU3]; simp
  have bxp : Boxed U4 (U3.heap.size + 1) 29 (.slice none 0 0) := by
    rw [eU4]
    have := (((Boxed.new (U3.alloc (.cells #[Value.int IntKind.i64 kd, Value.bool b, Value.int IntKind.i64 m, Value.float FloatKind.f64 f, Value.string tx, Value.string ty, Value.slice ai ni ci, Value.slice af nf cf] 27)) 29 (.slice none 0 0)).alloc (.cells #[Value.int IntKind.i64 kd, Value.bool b, Value.int IntKind.i64 m, Value.float FloatKind.f64 f, Value.string tx, Value.string ty, Value.slice ai ni ci, Value.slice af nf cf] 27)).alloc (.cells #[.func (.func 56) #[] #[.pointer (some ⟨U3.heap.size + 1, 0, none⟩), .pointer (some ⟨U3.heap.size + 2, 0, none⟩)]] 41)).alloc (.cells #[.int .i64 0] 3)
    simpa using this
  have bxw : Boxed U4 (U3.heap.size + 3) 41 (.func (.func 56) #[] #[.pointer (some ⟨U3.heap.size + 1, 0, none⟩), .pointer (some ⟨U3.heap.size + 2, 0, none⟩)]) := by
    rw [eU4]
    have := (Boxed.new (((U3.alloc (.cells #[Value.int IntKind.i64 kd, Value.bool b, Value.int IntKind.i64 m, Value.float FloatKind.f64 f, Value.string tx, Value.string ty, Value.slice ai ni ci, Value.slice af nf cf] 27)).alloc (.cells #[Value.slice none 0 0] 29)).alloc (.cells #[Value.int IntKind.i64 kd, Value.bool b, Value.int IntKind.i64 m, Value.float FloatKind.f64 f, Value.string tx, Value.string ty, Value.slice ai ni ci, Value.slice af nf cf] 27)) 41 (.func (.func 56) #[] #[.pointer (some ⟨U3.heap.size + 1, 0, none⟩), .pointer (some ⟨U3.heap.size + 2, 0, none⟩)])).alloc (.cells #[.int .i64 0] 3)
    simpa using this
  have bxn : Boxed U4 (U3.heap.size + 4) 3 (.int .i64 0) := by
    rw [eU4]
    have := Boxed.new ((((U3.alloc (.cells #[Value.int IntKind.i64 kd, Value.bool b, Value.int IntKind.i64 m, Value.float FloatKind.f64 f, Value.string tx, Value.string ty, Value.slice ai ni ci, Value.slice af nf cf] 27)).alloc (.cells #[Value.slice none 0 0] 29)).alloc (.cells #[Value.int IntKind.i64 kd, Value.bool b, Value.int IntKind.i64 m, Value.float FloatKind.f64 f, Value.string tx, Value.string ty, Value.slice ai ni ci, Value.slice af nf cf] 27)).alloc (.cells #[.func (.func 56) #[] #[.pointer (some ⟨U3.heap.size + 1, 0, none⟩), .pointer (some ⟨U3.heap.size + 2, 0, none⟩)]] 41)) 3 (.int .i64 0)
    simpa using this
  have rxv : U4.rangeAt (U3.heap.size + 2) 0 [Value.int IntKind.i64 kd, Value.bool b, Value.int IntKind.i64 m, Value.float FloatKind.f64 f, Value.string tx, Value.string ty, Value.slice ai ni ci, Value.slice af nf cf] := fun j q hq => by
    rw [Nat.zero_add, eU4]
    refine ((((Below.refl (U3.heap.size + 3) (((U3.alloc (.cells #[Value.int IntKind.i64 kd, Value.bool b, Value.int IntKind.i64 m, Value.float FloatKind.f64 f, Value.string tx, Value.string ty, Value.slice ai ni ci, Value.slice af nf cf] 27)).alloc (.cells #[Value.slice none 0 0] 29)).alloc (.cells #[Value.int IntKind.i64 kd, Value.bool b, Value.int IntKind.i64 m, Value.float FloatKind.f64 f, Value.string tx, Value.string ty, Value.slice ai ni ci, Value.slice af nf cf] 27))).alloc (by simp) _).alloc (by simp <;> omega) _).cell (p := ⟨U3.heap.size + 2, j, none⟩) (by show U3.heap.size + 2 < U3.heap.size + 3; omega)).trans ?_
    rw [World.cell?_alloc_at _ _ _ _ (by simp)]
    simpa using hq
  have g5 : Below U2.heap.size U2 U4 := g3.trans (g4.mono g3.size)
  have bxq : Boxed U4 U2.heap.size 38 (.slice a N c) := by
    have : Boxed U3 U2.heap.size 38 (.slice a N c) := by rw [unhide EU3]; exact Boxed.new U2 _ _
    exact (g4.block _ this.lt).trans this
  have E : TwE w U1 U2 U4 V N c a G stop U2.heap.size (w.heap.size + 1) (U3.heap.size + 4) := ⟨unhide HSm, unhide HCn, unhide HB2, unhide HG2, g5, unhide HGr, bxq, (g5.block _ p3.lt).trans p3, by omega, by omega, by omega, by omega⟩
  have bxr : Boxed U4 (w.heap.size + 2) 4 (.bool false) := (g5.block _ (by omega)).trans q3
  have i0 : TwI U4 (U3.heap.size + 4) 0 U4 := ⟨rfl, rfl, rfl, Nat.le_refl _, bxn, fun _ _ _ => rfl⟩
  have b5 : Below w.heap.size w U4 := b3.trans (g5.mono b3.size)
  have hsf2 := hide hsf
  have hNN := unhide HNN
  clear eU4 hsf r3 p3 q3 r4 b4 g3 g4 g5 bxn bxq
  refine wpT_H (α := Wel w) rfl (by omega) (gf := 56) (lb := #[.pointer (some ⟨U3.heap.size + 1, 0, none⟩), .pointer (some ⟨U3.heap.size + 2, 0, none⟩)]) rfl trivial (enters_of Try.func56 (by kernel_rfl) rfl)
    (encs := Wel.enc (w0 := w)) (Rd := fun x A => GrS (U4.heap.size + 2) x.ss x.sl A) (C := Ch (U4.heap.size + 2) none 0) (Kp := fun x A A' => Kz (Zw w (U4.heap.size + 2) (U3.heap.size + 1) (U3.heap.size + 2) none) x.sl.ownBlock A A')
    (S := fun xs => xs.map Wel.pv = pts V []) (Sp := fun pre => ∃ k, pre.map Wel.pv = (pts V []).take k) (Nx := fun pre x => ∃ r, pre.map Wel.pv ++ x.pv :: r = pts V [])
    (fun W1 hb hs => by
      have hb1 := i0.below E.nu hb
      have := unhide WA w [Value.int IntKind.i64 kd, Value.bool b, Value.int IntKind.i64 m, Value.float FloatKind.f64 f, Value.string tx, Value.string ty, Value.slice ai ni ci, Value.slice af nf cf] (unhide HV) (8 - 1) [] (.slice none 0 0) (U3.heap.size + 1) (U3.heap.size + 2) w.heap.size W1 (b5.trans (hb.mono b5.size)) (Nat.le_refl _) (by omega) (by omega) (hb1.box bxp (by omega)) (fun j q hq => (cell_blk (hb1.blk _ (by omega) (by omega)) _).trans (rxv j q hq)) GrV.nil (fun g e => by simp [Value.ownBlock] at e) (fun _ => rfl) (by have := unhide HCn; simp; omega) (by omega)
      rw [hs] at this
      exact this)
    (fun A B hc k h1 h2 _ => hc.block k h2 (by simp))
    (fun x {A B C} h k => h.trans k) (fun x X o o' _ => Kz.putObj _ (fun h => by rcases h with h | h | h | h | h <;> first | omega | cases h)) (fun _ => rfl)
    (fun pre X => TwI U4 (U3.heap.size + 4) pre.length X ∧ (1 ≤ stop → (pre.length : Int) < stop)) (TwX U4 (U3.heap.size + 4) stop)
    (fun pre A B h hc => ⟨h.1.ch E.nu (by omega) hc, h.2⟩)
    (fun c pre A B h hc => ⟨h.1, h.2.1, h.2.2.ch E.nu (by omega) hc⟩)
    (fun pre A B row h hg hr => ⟨h.1.grown E.nu hg (fun r e => (hr r e).1), h.2⟩)
    (fun c pre A B row h hg hr => ⟨h.1, h.2.1, h.2.2.grown E.nu hg (fun r e => (hr r e).1)⟩)
    ⟨i0, fun h => by simp; omega⟩
    (fun x a' X => ∃ Bq, Bq < X.heap.size ∧ GrS (U4.heap.size + 2) x.ss x.sl X ∧ X.rangeAt Bq 0 x.cs ∧ a' = { tmps := #[.agg #[Value.int IntKind.i64 kd, Value.bool b, Value.int IntKind.i64 m, Value.float FloatKind.f64 f, Value.string tx, Value.string ty, Value.slice ai ni ci, Value.slice af nf cf], .int .i64 stop, .pointer (some ⟨w.heap.size, 0, none⟩), .pointer (some ⟨w.heap.size + 1, 0, none⟩), .pointer (some ⟨w.heap.size + 2, 0, none⟩), .pointer (some ⟨U2.heap.size, 0, none⟩), .pointer (some ⟨U3.heap.size + 3, 0, none⟩), .pointer (some ⟨U3.heap.size + 4, 0, none⟩), x.sl, .pointer (some ⟨Bq, 0, none⟩), undef, undef, undef, undef, undef, .bool true, .bool false, .agg #[Value.int IntKind.i64 kd, Value.bool b, Value.int IntKind.i64 m, Value.float FloatKind.f64 f, Value.string tx, Value.string ty, Value.slice ai ni ci, Value.slice af nf cf], .slice a N c, .agg #[Value.int IntKind.i64 kd, Value.bool b, Value.int IntKind.i64 m, Value.float FloatKind.f64 f, Value.string tx, Value.string ty, Value.slice ai ni ci, Value.slice af nf cf], .func (.func 56) #[] #[.pointer (some ⟨U3.heap.size + 1, 0, none⟩), .pointer (some ⟨U3.heap.size + 2, 0, none⟩)], .func (.func 56) #[] #[.pointer (some ⟨U3.heap.size + 1, 0, none⟩), .pointer (some ⟨U3.heap.size + 2, 0, none⟩)], .bool false, .func (.func 56) #[] #[.pointer (some ⟨U3.heap.size + 1, 0, none⟩), .pointer (some ⟨U3.heap.size + 2, 0, none⟩)], x.sl, .agg x.cs.toArray, undef, undef, undef, undef, undef, undef, undef, undef, undef, undef, undef, undef, undef, undef, undef, undef, undef, undef, undef, undef, undef, undef, undef, undef, undef, undef, undef, undef, undef, undef, undef, undef, undef, undef, undef, undef, undef, undef, undef, undef, undef, undef, undef, undef, undef, undef, undef, undef, undef, undef, undef, undef, undef, undef, undef, undef, undef, undef, undef, undef, undef, undef, undef, undef, undef, undef, undef, undef, undef, undef, undef, undef, undef, undef, undef, undef, undef, undef, undef, undef, undef, undef, undef, undef, undef, undef, undef, undef, undef, undef, undef, undef, undef, undef, undef, undef, undef, undef, undef, undef, undef, undef, undef, undef, undef, undef, undef, undef, undef, undef, undef], defers := [] })
    (fun x a' _ X X' row hs hg hr => by obtain ⟨Bq, h2, h4, h6, h7⟩ := hs; exact ⟨Bq, Nat.lt_of_lt_of_le h2 hg.size, grs_grown h4 hg (fun r e => (hr r e).2), fun j u hu => cell_kept (h6 j u hu) hg (fun r e => (hr r e).2), h7⟩)
    ?assign ?body ?done ?stop
  case assign =>
    rintro l pre x X K2 hJ hRd - hK2
    obtain ⟨xss, xv, xcs, xhv, xa, xc⟩ := x
    have hx' := xhv
    obtain ⟨xkd, xb, xm, xf, xtx, xty, xits, xfls⟩ := xv
    unfold VlC at hx'
    obtain ⟨xai, xni, xci, xaf, xnf, xcf, rfl, -⟩ := hx'
    unfold Wel.enc Wel.sl
    simp only
    have HJ := hide hJ
    have HRd := hide hRd
    have HE := hide E
    have hsf := unhide hsf2
    clear hJ hRd E i0 bxp bxw rxv bxr hNN
    gi_wp2
    have bb : Below X.heap.size X (X.alloc (.cells #[Value.int IntKind.i64 xkd, Value.bool xb, Value.int IntKind.i64 xm, Value.float FloatKind.f64 xf, Value.string xtx, Value.string xty, Value.slice xai xni xci, Value.slice xaf xnf xcf] 27)) := (Below.refl _ X).alloc (Nat.le_refl _) _
    have hJ := unhide HJ
    have hRd := unhide HRd
    refine hK2 _ _ (keepsFrom_below bb) (Kz.of_below bb) ⟨hJ.1.below (unhide HE).nu bb, hJ.2⟩ ⟨X.heap.size, by simp, Ch.grs_far (Ch.of_below (G := none) (m := 0) (fun g e => by cases e) bb) (fun q hq => ⟨(hRd.lt q hq).2, by simp⟩) hRd, fun j q hq => ?_, rfl⟩
    rw [Nat.zero_add, World.cell?_alloc_at _ _ _ _ rfl]
    simpa using hq
  case body =>
    rintro l pre x a' X hl hr1 hJ ⟨Bq, hBq, hGx, hrq, rfl⟩ hnx
    exact body1 E hJ.1 hJ.2 hnx hGx (by omega) hBq hrq (fun h => by rcases h with h | h | h | h | h <;> first | omega | cases h)
  case done =>
    rintro D xs X hD hD2 hxs hJ hKD
    have hlen : xs.length = N := by have := congrArg List.length hxs; rw [List.length_map, ← hNN] at this; exact this
    refine hK _ _ (rest E hJ.1 (fun h1 h2 => ?_) hNN (by omega) (unhide HV) bxw (by omega) bxp (by omega) rxv (by omega) (by omega) (by omega) (by omega) bxr (by omega) (by omega) hKD hD)
    have := hJ.2 h1
    omega
  case stop =>
    rintro D c2 pre X hD hD2 - ⟨rfl, hps, hT⟩ hKD
    refine wpIn_exit ?_
    exact hK _ _ (rest E hT (fun h1 h2 => hps) hNN (by omega) (unhide HV) bxw (by omega) bxp (by omega) rxv (by omega) (by omega) (by omega) (by omega) bxr (by omega) (by omega) hKD hD)
end Go.Proofs.Ythpcpminikmcbaa.og
