import Derived.Test.YtlgmonphhimbdaaDoorTbk
namespace Go.Proofs.YtlgmonphhimbdaaDoor.tab
open Go.ChangeShapes Go.WideShapes Go.ChangeAt Go.RowKit Go.Maps Go.Shelf
open wk
attribute [local go_sem] Oper.semAt_some
set_option linter.unusedVariables false
set_option linter.unusedSimpArgs false
theorem RL.shape {w : World} {N : Nat → Prop} {v : Value} {ps : List Pr} (h : RL w N v ps) : ∃ a n c, v = .slice a n c := by
  obtain ⟨a, c, e, -⟩ := h
  exact ⟨a, _, c, e⟩
theorem Tb.lt' {w : World} {B : Nat} {X : Nat → Prop} {b : Nat} {M : Option Nat} {rs : List Rw} {nx : Nat} (h : Tb w B X b M rs nx) : ∀ j, X j → j < w.heap.size := fun j hj => (h.lo j hj).2
/-- what a round leaves behind its Put -/
structure WlR (W : World) (B : Nat) (X G : Nat → Prop) (b : Nat) (M : Option Nat) (rs : List Rw) (nx : Nat) (ps : List Pr) (px : Int) (nb fb k : Nat) (Y : World) (v : Value) : Prop where
  tb : Tb Y B X b M (drpR rs (nm px)) nx
  n : Boxed Y nb 3 (.int .i64 ((k : Int) + 1))
  f : Boxed Y fb 29 v
  rl : RL Y (fun j => ¬ X j ∧ j ≠ nb ∧ j ≠ fb ∧ G j) v (drpP ps px)
  kx : Kx (fun j => X j ∨ j = nb ∨ j = fb) W Y
set_option maxRecDepth 100000 in
set_option maxHeartbeats 1000000 in
theorem wl_rest {w U W : World} {B : Nat} {F G : Nat → Prop} {b : Nat} {M : Option Nat} {nx0 : Nat} {ps0 : List Pr} {a : Option Addr} {q c l n ob lb pb nb fb : Nat} {kd K V : Int} {X : Nat → Prop} {rs : List Rw} {nx k : Nat} {ps : List Pr} {vf : Value} {kj px py : Int} {fr : Bool} {Q : Exit → Act → World → Prop} {t0 t1 t2 t6 t7 t10 t12 t14 t15 t16 t17 t18 t19 t20 t21 t22 t23 t24 t25 t26 t27 t28 t29 t30 t31 t32 t33 t34 t35 t36 t37 t38 t39 t40 t41 t42 t43 t44 t45 t46 t47 t48 t49 t50 t51 t52 t53 t54 t55 t56 t57 t58 t59 t60 t61 t62 t63 t64 t65 t66 t67 t68 t69 t70 t71 t72 t73 t74 t75 t76 t77 t78 t79 t80 t81 t82 t83 t84 t85 t86 t87 t88 t89 t90 t91 t92 t93 t94 t95 t96 t97 t98 t99 t100 t101 : Value} (E : WlE w U B F G b M nx0 ps0 a q c kd K V ob lb pb nb fb) (hK : WlK U F nb fb W) (hn : Boxed W nb 3 (.int .i64 (k : Nat))) (hf : Boxed W fb 29 vf) (hT : Tb W B X b M rs nx) (hR : Rel rs (putP ps kj V)) (hL : RL W (fun j => ¬ X j ∧ j ≠ nb ∧ j ≠ fb ∧ G j) vf ps) (hlen : ps.length ≤ 1048576) (xo : ∀ j, w.heap.size ≤ j → j < U.heap.size → ¬ X j) (hp : ps0[k]? = some (px, py))
    (hfr : Hid ((!hasP ps kj) = fr)) (hkj : Hid (IntKind.i64.wrap (K + (k : Nat)) = kj)) (xg : ∀ j, ¬ F j → j < w.heap.size → ¬ X j)
    (hQ : Hid (∀ a' Y v, WlR W B X G b M rs nx (putP ps kj V) px nb fb k Y v → Q .normal a' Y)) :
    (nav wlLaw [1, 1, 1, 1, 1, 0, 1, 0, 1, 0, 1, 1]).wpIn (Fence.wide.inRound l) n Tryd.prog Q { tmps := #[t0, t1, t2, .pointer (some ⟨ob, 0, none⟩), .pointer (some ⟨lb, 0, none⟩), .pointer (some ⟨pb, 0, none⟩), t6, t7, .pointer (some ⟨nb, 0, none⟩), .pointer (some ⟨fb, 0, none⟩), t10, .string (nm px), t12, .bool fr, t14, t15, t16, t17, t18, t19, t20, t21, t22, t23, t24, t25, t26, t27, t28, t29, t30, t31, t32, t33, t34, t35, t36, t37, t38, t39, t40, t41, t42, t43, t44, t45, t46, t47, t48, t49, t50, t51, t52, t53, t54, t55, t56, t57, t58, t59, t60, t61, t62, t63, t64, t65, t66, t67, t68, t69, t70, t71, t72, t73, t74, t75, t76, t77, t78, t79, t80, t81, t82, t83, t84, t85, t86, t87, t88, t89, t90, t91, t92, t93, t94, t95, t96, t97, t98, t99, t100, t101], defers := [] } W := by
  have hkq : k < q := by rw [E.qe]; exact (List.getElem?_eq_some_iff.1 hp).1
  obtain ⟨g, px', py', rfl, z0, z1, hin, hp', hg, hF⟩ := E.look hK hkq
  rw [hp] at hp'
  obtain ⟨rfl, rfl⟩ : px = px' ∧ py = py' := by simpa using hp'
  have hqb := E.qb
  have lo := E.o.lt
  have ll := E.l.lt
  have lp := E.pl
  have nU := E.nu
  have fU := E.fu
  have sU := hK.size
  have nF : ∀ j, w.heap.size ≤ j → ¬ F j := fun j hj h => by have := (E.lo _ h).2; omega
  have o0 := (hK.box E.o (nF _ E.wo) E.on).cell
  have l0 : W.cell? ⟨lb, 0, none⟩ = some (.slice (some ⟨g, 0, none⟩) q c) := (hK.box E.l (nF _ E.wl) E.ln).cell
  have pb0 : W.heap[pb]? = U.heap[pb]? := hK.blk pb lp (nF _ E.wp) E.pn.1 E.pn.2
  have p1 : W.cell? ⟨pb, 1, none⟩ = some (.int .i64 K) := (World.cell?_of_block (a := ⟨pb, 1, none⟩) pb0).trans (E.p 1 _ rfl)
  have p2 : W.cell? ⟨pb, 2, none⟩ = some (.int .i64 V) := (World.cell?_of_block (a := ⟨pb, 2, none⟩) pb0).trans (E.p 2 _ rfl)
  have n0 := hn.cell
  have f0 := hf.cell
  have hW : w.heap.size ≤ W.heap.size := Nat.le_trans E.bw.size sU
  have xob := xo ob E.wo lo
  have xlb := xo lb E.wl ll
  have xnb := xo nb E.wn nU
  have xfb := xo fb E.wf fU
  have xgg := xg g hF hg
  have RP := hide (rput_ok W _ vf ps kj V hL (by omega))
  have HT := hide hT
  have HR := hide hR
  have HN := hide hn
  have HF := hide hf
  have hnf := E.nf
  have hG := E.hG
  have hs : (nm px).size ≤ maxLen := by have := nm_size px hin; simp only [maxLen]; omega
  have lP := put_len ps kj V
  have mi : (k : Int) < (q : Int) := by omega
  obtain ⟨af, nf, cf, rfl⟩ := hL.shape
  have e1 : wrap64 (K + (k : Nat)) = kj := by rw [← unhide hkj, IntWalk.i64_left]
  have HP := hide hp
  clear hL hn hf hR hT hK E pb0 hp hp' hin xo xg
  simp only [wlLaw, nav, Tryd.f19, Option.getD_some]
  gi_wp2_with fail
  refine ⟨trivial, fun h => by simp [Fence.wide] at h, (CallsIn.inRound l (callsIn_wide.2 (unhide RP))).mono ?_⟩
  rintro e W3 ⟨v1, he, rl1, b3⟩
  rw [unhide hfr] at he
  subst he
  obtain ⟨a1, n1, c1, rfl⟩ := rl1.shape
  have T3 := hide ((unhide HT).below b3)
  have o3 := (b3.cell (p := ⟨ob, 0, none⟩) (by show ob < W.heap.size; omega)).trans o0
  have RL1 := hide rl1
  have B3 := hide b3
  have ltX := (unhide HT).lt'
  clear RP rl1 b3
  gi_wp2_with fail
  refine ⟨trivial, fun h => by simp [Fence.wide] at h, (CallsIn.inRound l (callsIn_wide.2 (drop_tb (unhide T3) (nm px) hs (by have := (unhide HR).len; omega)))).mono ?_⟩
  rintro e W4 ⟨he, t4, k4⟩
  obtain ⟨gn, hgn⟩ : ∃ gn, gn = hasP (putP ps kj V) px := ⟨_, rfl⟩
  rw [(unhide HR).has, ← hgn] at he
  subst he
  have HG := hide hgn
  have b3 := unhide B3
  have s3 := b3.size
  have l4 := (k4.cell (p := ⟨lb, 0, none⟩) (by show lb < W3.heap.size; omega) xlb).trans ((b3.cell (p := ⟨lb, 0, none⟩) (by show lb < W.heap.size; omega)).trans l0)
  have n4 := (k4.cell (p := ⟨nb, 0, none⟩) (by show nb < W3.heap.size; omega) xnb).trans ((b3.cell (p := ⟨nb, 0, none⟩) (by show nb < W.heap.size; omega)).trans n0)
  have z4 := (k4.cell (p := ⟨g, k * 2, none⟩) (by show g < W3.heap.size; omega) xgg).trans ((b3.cell (p := ⟨g, k * 2, none⟩) (by show g < W.heap.size; omega)).trans z0)
  have rl4 : RL W4 (fun j => W.heap.size ≤ j) (.slice a1 n1 c1) (putP ps kj V) := (unhide RL1).move k4.size (fun j h1 h2 => k4.block j h1 (fun hx => by have := ltX j hx; omega))
  have RD := hide (rdrop_ok W4 _ _ (putP ps kj V) px rl4 (by omega))
  have T4 := hide t4
  have K4 := hide k4
  clear hgn t4 k4 rl4 o3 b3 s3 T3
  gi_wp2_with fail
  refine ⟨trivial, fun h => by simp [Fence.wide] at h, (CallsIn.inRound l (callsIn_wide.2 (unhide RD))).mono ?_⟩
  rintro e W5 ⟨v2, he, rl2, b5⟩
  rw [← unhide HG] at he
  subst he
  obtain ⟨a2, n2, c2, rfl⟩ := rl2.shape
  have b3 := unhide B3
  have s3 := b3.size
  have k4 := unhide K4
  have s4 := k4.size
  have s5 := b5.size
  have n5 : Boxed W5 nb 3 (.int .i64 (k : Nat)) := (b5.block nb (by omega)).trans ((k4.block nb (by omega) xnb).trans ((b3.block nb (by omega)).trans (unhide HN)))
  have f5 : Boxed W5 fb 29 (.slice af nf cf) := (b5.block fb (by omega)).trans ((k4.block fb (by omega) xfb).trans ((b3.block fb (by omega)).trans (unhide HF)))
  have cn5 := n5.cell
  have fn5 := n5.frozen
  have cf5 := f5.cell
  have ff5 := f5.frozen
  have cn6 := (World.cell?_setCell_far W5 ⟨fb, 0, none⟩ ⟨nb, 0, none⟩ (.slice a2 n2 c2) (fun e => hnf e.symm)).trans cn5
  have fn6 : (W5.setCell ⟨fb, 0, none⟩ (.slice a2 n2 c2)).frozen? ⟨nb, 0, none⟩ = false := (World.frozen?_setCell _ _ _ _).trans fn5
  have N5 := hide n5
  have F5 := hide f5
  have RL2 := hide rl2
  have B5 := hide b5
  clear n5 f5 rl2 b5 b3 k4 s3 s4 s5 RD
  cases fr <;> cases gn <;> gi_wp2
  all_goals refine unhide hQ _ _ (.slice a2 n2 c2) ?_
  all_goals (
    have b3 := unhide B3
    have s3 := b3.size
    have k4 := unhide K4
    have s4 := k4.size
    have b5 := unhide B5
    have s5 := b5.size
    have nbf : ∀ j, X j → j ≠ nb ∧ j ≠ fb := fun j hj => ⟨fun e => xnb (e ▸ hj), fun e => xfb (e ▸ hj)⟩
    have eY : ∀ j, j ≠ nb → j ≠ fb → ((W5.setCell ⟨fb, 0, none⟩ (.slice a2 n2 c2)).setCell ⟨nb, 0, none⟩ (.int .i64 ((k : Int) + 1))).heap[j]? = W5.heap[j]? := fun j h1 h2 => (Below.heap_setCell _ ⟨nb, 0, none⟩ _ _ h1).trans (Below.heap_setCell _ ⟨fb, 0, none⟩ _ _ h2)
    have sY : ((W5.setCell ⟨fb, 0, none⟩ (.slice a2 n2 c2)).setCell ⟨nb, 0, none⟩ (.int .i64 ((k : Int) + 1))).heap.size = W5.heap.size := by simp
    refine ⟨(unhide T4).move (by omega) (fun j hj => (eY j (nbf j hj).1 (nbf j hj).2).trans (b5.block j ((unhide T4).lt' j hj))), ?_, ?_, ?_, ?_⟩
    · have : Boxed (W5.setCell ⟨fb, 0, none⟩ (.slice a2 n2 c2)) nb 3 (.int .i64 (k : Nat)) := (Below.heap_setCell _ ⟨fb, 0, none⟩ _ _ hnf).trans (unhide N5)
      exact this.set _
    · exact (Below.heap_setCell _ ⟨nb, 0, none⟩ _ _ (fun e => hnf e.symm)).trans ((unhide F5).set _)
    · exact ((unhide RL2).mono (N' := fun j => ¬ X j ∧ j ≠ nb ∧ j ≠ fb ∧ G j) (fun j _ hj => ⟨fun hx => by have := ltX j hx; omega, by omega, by omega, hG j (by omega)⟩)).move (by omega) (fun j _ hj => eY j hj.2.1 hj.2.2.1)
    · have a1 : Kx (fun j => X j ∨ j = nb ∨ j = fb) W W4 := (Kx.of_below b3).trans (k4.mono (Y := fun j => X j ∨ j = nb ∨ j = fb) (fun j hj => .inl hj)) (fun j hj => .inl hj)
      have a2 : Kx (fun j => X j ∨ j = nb ∨ j = fb) W W5 := a1.trans (Kx.of_below (X := fun j => X j ∨ j = nb ∨ j = fb) b5) (fun j hj => .inl hj)
      exact a2.trans ((Kx.setCell (X := fun j => X j ∨ j = nb ∨ j = fb) W5 (p := ⟨fb, 0, none⟩) (.inr (.inr rfl)) _).trans (Kx.setCell (X := fun j => X j ∨ j = nb ∨ j = fb) _ (p := ⟨nb, 0, none⟩) (.inr (.inl rfl)) _) (fun j hj => .inl hj)) (fun j hj => .inl hj))
end Go.Proofs.YtlgmonphhimbdaaDoor.tab
