import Derived.Test.YtlgmonphhimbdaaDoorTbi
import Derived.Test.YtlgmonphhimbdaaDoorWkH
import Derived.Test.YtlgmonphhimbdaaDoorRgn
namespace Go.Proofs.YtlgmonphhimbdaaDoor.tab
open Go.ChangeShapes Go.WideShapes Go.ChangeAt Go.RowKit Go.Maps Go.Shelf
open wk
attribute [local go_sem] Oper.semAt_some
set_option linter.unusedVariables false
set_option linter.unusedSimpArgs false
noncomputable def wlLaw : Code := Tryd.f19.body.getD .skip
/-- what changedWhile has laid down ahead of its loop -/
structure WlE (w U : World) (B : Nat) (F G : Nat → Prop) (b : Nat) (M : Option Nat) (nx0 : Nat) (ps0 : List Pr) (a : Option Addr) (q c : Nat) (kd K V : Int) (ob lb pb nb fb : Nat) : Prop where
  bw : Below w.heap.size w U
  hB : B ≤ w.heap.size
  hG : ∀ j, w.heap.size ≤ j → G j
  lo : ∀ k, F k → B ≤ k ∧ k < w.heap.size
  mF : ∀ m, M = some m → F m
  o : Boxed U ob 23 (.pointer (some ⟨b, 0, none⟩))
  l : Boxed U lb 29 (.slice a q c)
  p : U.rangeAt pb 0 [.int .i64 kd, .int .i64 K, .int .i64 V]
  pl : pb < U.heap.size
  nu : nb < U.heap.size
  fu : fb < U.heap.size
  wo : w.heap.size ≤ ob
  wl : w.heap.size ≤ lb
  wp : w.heap.size ≤ pb
  wn : w.heap.size ≤ nb
  wf : w.heap.size ≤ fb
  on : ob ≠ nb ∧ ob ≠ fb
  ln : lb ≠ nb ∧ lb ≠ fb
  pn : pb ≠ nb ∧ pb ≠ fb
  nf : nb ≠ fb
  qe : q = ps0.length
  qb : q ≤ 1048576
  xb : nx0 ≤ 1152921504605798400
  rng : ∀ p ∈ ps0, InR p.1
  dis : ∀ (i j : Nat) (p r : Pr), ps0[i]? = some p → ps0[j]? = some r → p.1 = r.1 → i = j
  rd : ps0 = [] ∨ ∃ g, a = some ⟨g, 0, none⟩ ∧ g < w.heap.size ∧ ¬ F g ∧ w.rangeAt g 0 (flat2 ps0)
  tw : Tw B w
/-- all but the table, the count and the list lies as in U -/
structure WlK (U : World) (F : Nat → Prop) (nb fb : Nat) (W : World) : Prop where
  os : W.os = U.os
  tape : W.tape = U.tape
  output : W.output = U.output
  size : U.heap.size ≤ W.heap.size
  blk : ∀ k, k < U.heap.size → ¬ F k → k ≠ nb → k ≠ fb → W.heap[k]? = U.heap[k]?
/-- what the loop keeps: after k rounds -/
structure WlI (U : World) (B : Nat) (F G : Nat → Prop) (b : Nat) (M : Option Nat) (nx0 : Nat) (ps0 : List Pr) (nb fb k : Nat) (W : World) (X : Nat → Prop) (rs : List Rw) (nx : Nat) (ps : List Pr) (vf : Value) : Prop where
  kp : WlK U F nb fb W
  tb : Tb W B X b M rs nx
  rel : Rel rs ps
  here : ∀ i p, k ≤ i → ps0[i]? = some p → hasP ps p.1 = true
  len : ps.length ≤ ps0.length
  nxb : nx ≤ nx0 + k
  n : Boxed W nb 3 (.int .i64 (k : Nat))
  f : Boxed W fb 29 vf
  rl : RL W (fun j => ¬ X j ∧ j ≠ nb ∧ j ≠ fb ∧ G j) vf ps
  xf : ∀ j, X j → F j ∨ U.heap.size + 4 ≤ j
  fx : ∀ j, F j → X j
theorem WlI.nx {U W : World} {B : Nat} {F G X : Nat → Prop} {b : Nat} {M : Option Nat} {nx0 nx nb fb k : Nat} {ps0 ps : List Pr} {rs : List Rw} {vf : Value} (h : WlI U B F G b M nx0 ps0 nb fb k W X rs nx ps vf) (hn : nb < U.heap.size) : ¬ X nb ∨ F nb := by
  by_cases hx : X nb
  · rcases h.xf nb hx with h1 | h1
    · exact .inr h1
    · omega
  · exact .inl hx
theorem RL.own {w w' : World} {N : Nat → Prop} {v : Value} {ps : List Pr} {row : Option Nat} (h : RL w N v ps) (hg : w.grownBy w' row) (hr : ∀ r, row = some r → ∃ o : Obj, w.heap[r]? = some o ∧ o.isCells = false) : RL w' N v ps := by
  obtain ⟨a, c, e, h1⟩ := h
  refine ⟨a, c, e, ?_⟩
  by_cases hp0 : ps = []
  · exact .inl hp0
  rcases h1 with h1 | ⟨p, e1, hp, hN, hra⟩
  · exact .inl h1
  · refine .inr ⟨p, e1, Nat.lt_of_lt_of_le hp hg.size, hN, ra_same (hg.block p hp (fun er => ?_)) hra⟩
    obtain ⟨o, ho, hno⟩ := hr p er.symm
    obtain ⟨q, qs, rfl⟩ := List.exists_cons_of_ne_nil hp0
    have := hra 0 (.int .i64 q.1) (by rw [flat2_cons]; rfl)
    simp only [World.cell?, ho] at this
    cases o <;> first | (simp at this; done) | (simp [Obj.isCells] at hno; done)
theorem WlI.step {U W W' : World} {B : Nat} {F G X : Nat → Prop} {b : Nat} {M : Option Nat} {nx0 nx nb fb k : Nat} {ps0 ps : List Pr} {rs : List Rw} {vf : Value} (h : WlI U B F G b M nx0 ps0 nb fb k W X rs nx ps vf) (hn : nb < U.heap.size) (hf : fb < U.heap.size) {row : Option Nat} (hg : W.grownBy W' row) (hM : ∀ m, M = some m → some m ≠ row) (hr : ∀ r, row = some r → U.heap.size ≤ r ∧ ∃ o : Obj, W.heap[r]? = some o ∧ o.isCells = false) : WlI U B F G b M nx0 ps0 nb fb k W' X rs nx ps vf := by
  have s1 := h.kp.size
  have lo : ∀ j, j < U.heap.size → W'.heap[j]? = W.heap[j]? := fun j hj => hg.block j (by omega) (fun e => by have := (hr j e.symm).1; omega)
  refine ⟨⟨hg.os.trans h.kp.os, hg.tape.trans h.kp.tape, hg.output.trans h.kp.output, Nat.le_trans s1 hg.size, fun j h1 h2 h3 h4 => (lo j h1).trans (h.kp.blk j h1 h2 h3 h4)⟩, h.tb.move hg.size (fun j hj => hg.block j (h.tb.lo j hj).2 (fun e => ?_)), h.rel, h.here, h.len, h.nxb, (lo nb hn).trans h.n, (lo fb hf).trans h.f, h.rl.own hg (fun r e => (hr r e).2), h.xf, h.fx⟩
  rcases h.tb.dat j hj with h1 | ⟨cs, t, fr, h1⟩
  · exact hM j h1 e
  · obtain ⟨-, o, ho, hno⟩ := hr j e.symm
    rw [h1] at ho
    cases ho
    cases hno
theorem WlI.below {U W W' : World} {B : Nat} {F G X : Nat → Prop} {b : Nat} {M : Option Nat} {nx0 nx nb fb k : Nat} {ps0 ps : List Pr} {rs : List Rw} {vf : Value} (h : WlI U B F G b M nx0 ps0 nb fb k W X rs nx ps vf) (hn : nb < U.heap.size) (hf : fb < U.heap.size) (hb : Below W.heap.size W W') : WlI U B F G b M nx0 ps0 nb fb k W' X rs nx ps vf :=
  h.step hn hf (row := none) ⟨hb.os, hb.tape, hb.output, hb.size, fun k hk _ => hb.block k hk⟩ (fun m _ => by simp) (fun r e => by cases e)
theorem WlI.bel {w U W : World} {B : Nat} {F G X : Nat → Prop} {b : Nat} {M : Option Nat} {nx0 nx nb fb k : Nat} {ps0 ps : List Pr} {rs : List Rw} {vf : Value} (h : WlI U B F G b M nx0 ps0 nb fb k W X rs nx ps vf) (hb : Below w.heap.size w U) (hB : B ≤ w.heap.size) (hn : w.heap.size ≤ nb) (hf : w.heap.size ≤ fb) (lo : ∀ k, F k → B ≤ k) : Below B w W :=
  (hb.mono hB).trans ⟨h.kp.os, h.kp.tape, h.kp.output, h.kp.size, fun j hj => h.kp.blk j (by have := hb.size; omega) (fun hF => by have := lo j hF; omega) (by omega) (by omega)⟩
theorem WlK.box {U W : World} {F : Nat → Prop} {nb fb : Nat} (h : WlK U F nb fb W) {j : Nat} {t : TypeId} {v : Value} (hb : Boxed U j t v) (hF : ¬ F j) (hn : j ≠ nb ∧ j ≠ fb) : Boxed W j t v := (h.blk j hb.lt hF hn.1 hn.2).trans hb
/-- a list's entry, in a round -/
theorem WlE.look {w U W : World} {B : Nat} {F G : Nat → Prop} {b : Nat} {M : Option Nat} {nx0 : Nat} {ps0 : List Pr} {a : Option Addr} {q c ob lb pb nb fb : Nat} {kd K V : Int} (E : WlE w U B F G b M nx0 ps0 a q c kd K V ob lb pb nb fb) (hK : WlK U F nb fb W) {k : Nat} (hk : k < q) :
    ∃ g x y, a = some ⟨g, 0, none⟩ ∧ W.cell? ⟨g, k * 2, none⟩ = some (.int .i64 x) ∧ W.cell? ⟨g, k * 2 + 1, none⟩ = some (.int .i64 y) ∧ InR x ∧ ps0[k]? = some (x, y) ∧ g < w.heap.size ∧ ¬ F g := by
  obtain ⟨p, hp⟩ : ∃ p, ps0[k]? = some p := ⟨_, List.getElem?_eq_getElem (by rw [← E.qe]; exact hk)⟩
  rcases E.rd with h0 | ⟨g, rfl, hg, hF, hr⟩
  · rw [h0] at hp; cases hp
  obtain ⟨z0, z1⟩ := rl_cells hr hp
  have sU := E.bw.size
  have e : W.heap[g]? = w.heap[g]? := (hK.blk g (by omega) hF (by have := E.wn; omega) (by have := E.wf; omega)).trans (E.bw.block g hg)
  exact ⟨g, p.1, p.2, rfl, (World.cell?_of_block (a := ⟨g, k * 2, none⟩) e).trans z0, (World.cell?_of_block (a := ⟨g, k * 2 + 1, none⟩) e).trans z1, E.rng p (List.mem_of_getElem? hp), hp, hg, hF⟩
set_option maxRecDepth 100000 in
set_option maxHeartbeats 1000000 in
theorem wl_chk {w U W : World} {B : Nat} {F G : Nat → Prop} {b : Nat} {M : Option Nat} {nx0 : Nat} {ps0 : List Pr} {a : Option Addr} {q c l n ob lb pb nb fb : Nat} {kd K V : Int} {X : Nat → Prop} {rs : List Rw} {nx k : Nat} {ps : List Pr} {vf : Value} {px py : Int} {Q : Exit → Act → World → Prop} {t0 t1 t2 t6 t7 t10 t13 t14 t15 t16 t17 t18 t19 t20 t21 t22 t23 t24 t25 t26 t27 t28 t29 t30 t31 t32 t33 t34 t35 t36 t37 t38 t39 t40 t41 t42 t43 t44 t45 t46 t47 t48 t49 t50 t51 t52 t53 t54 t55 t56 t57 t58 t59 t60 t61 t62 t63 t64 t65 t66 t67 t68 t69 t70 t71 t72 t73 t74 t75 t76 t77 t78 t79 t80 t81 t82 t83 t84 t85 t86 t87 t88 t89 t90 t91 t92 t93 t94 t95 t96 t97 t98 t99 t100 t101 : Value} (E : WlE w U B F G b M nx0 ps0 a q c kd K V ob lb pb nb fb) (hI : WlI U B F G b M nx0 ps0 nb fb k W X rs nx ps vf) (hp : ps0[k]? = some (px, py))
    (hQ : Hid (∀ (s28 s29 s30 s31 s32 s33 s34 s35 s36 s37 s38 s39 s40 s41 s42 s43 s44 s45 s46 s47 s48 s49 s50 : Value) W2, Below W.heap.size W W2 → Q .normal { tmps := #[t0, t1, t2, .pointer (some ⟨ob, 0, none⟩), .pointer (some ⟨lb, 0, none⟩), .pointer (some ⟨pb, 0, none⟩), t6, t7, .pointer (some ⟨nb, 0, none⟩), .pointer (some ⟨fb, 0, none⟩), t10, .string (nm px), .int .i64 py, t13, t14, t15, t16, t17, t18, t19, t20, t21, t22, t23, t24, t25, t26, t27, s28, s29, s30, s31, s32, s33, s34, s35, s36, s37, s38, s39, s40, s41, s42, s43, s44, s45, s46, s47, s48, s49, s50, t51, t52, t53, t54, t55, t56, t57, t58, t59, t60, t61, t62, t63, t64, t65, t66, t67, t68, t69, t70, t71, t72, t73, t74, t75, t76, t77, t78, t79, t80, t81, t82, t83, t84, t85, t86, t87, t88, t89, t90, t91, t92, t93, t94, t95, t96, t97, t98, t99, t100, t101], defers := [] } W2)) :
    (nav wlLaw [1, 1, 1, 1, 1, 0, 1, 0, 1, 0, 0]).wpIn (Fence.wide.inRound l) n Tryd.prog Q { tmps := #[t0, t1, t2, .pointer (some ⟨ob, 0, none⟩), .pointer (some ⟨lb, 0, none⟩), .pointer (some ⟨pb, 0, none⟩), t6, t7, .pointer (some ⟨nb, 0, none⟩), .pointer (some ⟨fb, 0, none⟩), t10, .string (nm px), .int .i64 py, t13, t14, t15, t16, t17, t18, t19, t20, t21, t22, t23, t24, t25, t26, t27, t28, t29, t30, t31, t32, t33, t34, t35, t36, t37, t38, t39, t40, t41, t42, t43, t44, t45, t46, t47, t48, t49, t50, t51, t52, t53, t54, t55, t56, t57, t58, t59, t60, t61, t62, t63, t64, t65, t66, t67, t68, t69, t70, t71, t72, t73, t74, t75, t76, t77, t78, t79, t80, t81, t82, t83, t84, t85, t86, t87, t88, t89, t90, t91, t92, t93, t94, t95, t96, t97, t98, t99, t100, t101], defers := [] } W := by
  have hlt : k < q := by rw [E.qe]; exact (List.getElem?_eq_some_iff.1 hp).1
  have bwW : Below B w W := hI.bel E.bw E.hB E.wn E.wf (fun j hj => (E.lo j hj).1)
  obtain ⟨g, px', py', rfl, z0, z1, hin, hp', hg, hF⟩ := E.look hI.kp hlt
  rw [hp] at hp'
  obtain ⟨rfl, rfl⟩ : px = px' ∧ py = py' := by simpa using hp'
  have hqb := E.qb
  have cn := hI.n.cell
  have cl : W.cell? ⟨lb, 0, none⟩ = some (.slice (some ⟨g, 0, none⟩) q c) := Boxed.cell (hI.kp.box E.l (fun h => by have := (E.lo _ h).2; have := E.wl; omega) E.ln)
  have NM := hide (name_ok px hin W (E.tw W bwW))
  have mi : (k : Int) < (q : Int) := by omega
  have HI := hide hI
  have ll := E.l.lt
  have hUX := hI.kp.size
  have hnu := E.nu
  have hfu := E.fu
  have hgX : g < W.heap.size := by have := E.bw.size; omega
  clear hI E hp hp' bwW hin
  obtain ⟨S, hS⟩ : ∃ S, S = nm px := ⟨_, rfl⟩
  simp only [← hS]
  rw [← hS] at NM
  simp only [← hS] at hQ
  clear hS
  simp only [wlLaw, nav, Tryd.f19, Option.getD_some]
  gi_wp2_with fail
  refine ⟨trivial, fun h => by simp [Fence.wide] at h, (CallsIn.inRound l (callsIn_wide.2 (unhide NM))).mono ?_⟩
  rintro e W2 ⟨rfl, b2⟩
  have cn2 := ((unhide HI).below hnu hfu b2).n.cell
  have cl2 := (b2.cell (p := ⟨lb, 0, none⟩) (by show lb < W.heap.size; omega)).trans cl
  have z12 := (b2.cell (p := ⟨g, k * 2 + 1, none⟩) hgX).trans z1
  have B2 := hide b2
  clear b2 NM HI
  gi_wp2
  exact unhide hQ _ _ _ _ _ _ _ _ _ _ _ _ _ _ _ _ _ _ _ _ _ _ _ W2 (unhide B2)
end Go.Proofs.YtlgmonphhimbdaaDoor.tab
