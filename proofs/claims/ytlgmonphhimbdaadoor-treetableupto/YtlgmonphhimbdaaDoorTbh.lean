import Derived.Test.YtlgmonphhimbdaaDoorTbg
namespace Go.Proofs.YtlgmonphhimbdaaDoor.tab
open Go.ChangeShapes Go.WideShapes Go.ChangeAt Go.RowKit Go.Maps Go.Shelf
open wk
attribute [local go_sem] Oper.semAt_some
set_option linter.unusedVariables false
set_option linter.unusedSimpArgs false
set_option maxRecDepth 100000 in
set_option maxHeartbeats 1000000 in
theorem ro_tail1 {w U X : World} {B : Nat} {F : Nat → Prop} {b : Nat} {M : Option Nat} {rs : List Rw} {nx : Nat} {ps : List Pr} {a : Option Addr} {q c k l n lb mb nb ob ab : Nat} {limit : Int} {Q : Exit → Act → World → Prop} {t0 t1 t2 t3 t6 t9 t10 t11 t12 t13 t14 t15 t16 t17 t18 t19 t20 t21 t22 t23 t24 t25 t26 t27 t28 t29 t30 t31 t32 t33 t34 t35 t36 t37 t38 t39 t40 t41 t42 t43 t44 t45 t46 t47 t48 t49 t50 t51 t52 t53 t54 t55 t56 t57 t58 t59 t60 t61 t62 t63 t64 t65 t66 t67 t68 t69 t70 t71 t72 t73 t74 t75 t76 t77 t78 t79 t80 t81 t82 t83 t84 t85 t86 t87 : Value} (E : RoE w U B F b M rs nx ps a q c limit lb mb nb ob ab) (hI : RoI U nb k X) (hkq : k < q) (hk0 : 0 < k)
    (hQ1 : Hid (¬ ((k : Int) + 1) = limit → ∀ a' Y, Below X.heap.size X Y → Q .normal a' (Y.setCell ⟨nb, 0, none⟩ (.int .i64 ((k : Int) + 1))))) (hQ2 : Hid (((k : Int) + 1) = limit → ∀ a' Y, Below X.heap.size X Y → Q (.exit 0) a' (Y.setCell ⟨nb, 0, none⟩ (.int .i64 ((k : Int) + 1))))) :
    (nav roLaw [1, 1, 1, 1, 0, 1, 0, 1, 0, 1]).wpIn (Fence.wide.inRound l) n Tryd.prog Q { tmps := #[t0, t1, t2, t3, .pointer (some ⟨lb, 0, none⟩), .pointer (some ⟨mb, 0, none⟩), t6, .pointer (some ⟨nb, 0, none⟩), .pointer (some ⟨ab, 0, none⟩), t9, t10, t11, t12, t13, t14, t15, t16, t17, t18, t19, t20, t21, t22, t23, t24, t25, t26, t27, t28, t29, t30, t31, t32, t33, t34, t35, t36, t37, t38, t39, t40, t41, t42, t43, t44, t45, t46, t47, t48, t49, t50, t51, t52, t53, t54, t55, t56, t57, t58, t59, t60, t61, t62, t63, t64, t65, t66, t67, t68, t69, t70, t71, t72, t73, t74, t75, t76, t77, t78, t79, t80, t81, t82, t83, t84, t85, t86, t87], defers := [] } X := by
  have c7 := hI.nbx.cell
  have f7 := hI.nbx.frozen
  have c8 : X.cell? ⟨mb, 0, none⟩ = some (.int .i64 limit) := Boxed.cell (hI.box E.m E.nm)
  have c8' := (World.cell?_setCell_far X ⟨nb, 0, none⟩ ⟨mb, 0, none⟩ (.int .i64 ((k : Int) + 1)) (fun e => E.nm e.symm)).trans c8
  have hqb := E.qb
  have kz : ¬ (k : Int) = 0 := by omega
  have kb : k ≤ 1048576 := by omega
  clear hI E
  by_cases hlim : ((k : Int) + 1) = limit
  · subst hlim
    have F2 := hide (fun a' => unhide hQ2 rfl a' X (Below.refl _ _))
    simp only [roLaw, nav, Tryd.f9, Option.getD_some]
    gi_wp2
    exact unhide F2 _
  · have F1 := hide (fun a' => unhide hQ1 hlim a' X (Below.refl _ _))
    simp only [roLaw, nav, Tryd.f9, Option.getD_some]
    gi_wp2
    exact unhide F1 _
set_option maxRecDepth 100000 in
set_option maxHeartbeats 1000000 in
theorem ro_tail {w U X : World} {B : Nat} {F : Nat → Prop} {b : Nat} {M : Option Nat} {rs : List Rw} {nx : Nat} {ps : List Pr} {a : Option Addr} {q c k l n lb mb nb ob ab : Nat} {limit : Int} {Q : Exit → Act → World → Prop} {t0 t1 t2 t3 t6 t9 t10 t11 t12 t13 t14 t15 t16 t17 t18 t19 t20 t21 t22 t23 t24 t25 t26 t27 t28 t29 t30 t31 t32 t33 t34 t35 t36 t37 t38 t39 t40 t41 t42 t43 t44 t45 t46 t47 t48 t49 t50 t51 t52 t53 t54 t55 t56 t57 t58 t59 t60 t61 t62 t63 t64 t65 t66 t67 t68 t69 t70 t71 t72 t73 t74 t75 t76 t77 t78 t79 t80 t81 t82 t83 t84 t85 t86 t87 : Value} (E : RoE w U B F b M rs nx ps a q c limit lb mb nb ob ab) (hI : RoI U nb k X) (hkq : k < q) (hn : 2 ≤ n) (hl : ∃ r, X.heap[l]? = some (.loop r))
    (hQ1 : Hid (¬ ((k : Int) + 1) = limit → ∀ a' Y, Below X.heap.size X Y → Q .normal a' (Y.setCell ⟨nb, 0, none⟩ (.int .i64 ((k : Int) + 1))))) (hQ2 : Hid (((k : Int) + 1) = limit → ∀ a' Y, Below X.heap.size X Y → Q (.exit 0) a' (Y.setCell ⟨nb, 0, none⟩ (.int .i64 ((k : Int) + 1))))) :
    (nav roLaw [1, 1, 1, 1, 0, 1, 0, 1, 0, 1]).wpIn (Fence.wide.inRound l) n Tryd.prog Q { tmps := #[t0, t1, t2, t3, .pointer (some ⟨lb, 0, none⟩), .pointer (some ⟨mb, 0, none⟩), t6, .pointer (some ⟨nb, 0, none⟩), .pointer (some ⟨ab, 0, none⟩), t9, t10, t11, t12, t13, t14, t15, t16, t17, t18, t19, t20, t21, t22, t23, t24, t25, t26, t27, t28, t29, t30, t31, t32, t33, t34, t35, t36, t37, t38, t39, t40, t41, t42, t43, t44, t45, t46, t47, t48, t49, t50, t51, t52, t53, t54, t55, t56, t57, t58, t59, t60, t61, t62, t63, t64, t65, t66, t67, t68, t69, t70, t71, t72, t73, t74, t75, t76, t77, t78, t79, t80, t81, t82, t83, t84, t85, t86, t87], defers := [] } X := by
  rcases Nat.eq_zero_or_pos k with rfl | h0
  · exact ro_tail0 (k := 0) E hI hkq hn hl hQ1 hQ2
  · exact ro_tail1 E hI hkq h0 hQ1 hQ2
set_option maxRecDepth 100000 in
set_option maxHeartbeats 1000000 in
theorem ro_chk {w U X : World} {B : Nat} {F : Nat → Prop} {b : Nat} {M : Option Nat} {rs : List Rw} {nx : Nat} {ps : List Pr} {a : Option Addr} {q c k l n lb mb nb ob ab : Nat} {limit : Int} {px py : Int} {Q : Exit → Act → World → Prop} {t0 t1 t2 t3 t6 t11 t12 t13 t14 t15 t16 t17 t18 t19 t20 t21 t22 t23 t24 t25 t26 t27 t28 t29 t30 t31 t32 t33 t34 t35 t36 t37 t38 t39 t40 t41 t42 t43 t44 t45 t46 t47 t48 t49 t50 t51 t52 t53 t54 t55 t56 t57 t58 t59 t60 t61 t62 t63 t64 t65 t66 t67 t68 t69 t70 t71 t72 t73 t74 t75 t76 t77 t78 t79 t80 t81 t82 t83 t84 t85 t86 t87 : Value} (E : RoE w U B F b M rs nx ps a q c limit lb mb nb ob ab) (hI : RoI U nb k X) (hp : ps[k]? = some (px, py))
    (hQ : Hid (∀ (s20 s21 s22 s23 s24 s25 s26 s27 s28 s29 s30 s31 s32 s33 s34 s35 s36 s37 s38 s39 s40 s41 s42 : Value) X2, Below X.heap.size X X2 → Q .normal { tmps := #[t0, t1, t2, t3, .pointer (some ⟨lb, 0, none⟩), .pointer (some ⟨mb, 0, none⟩), t6, .pointer (some ⟨nb, 0, none⟩), .pointer (some ⟨ab, 0, none⟩), .string (nm px), .int .i64 py, t11, t12, t13, t14, t15, t16, t17, t18, t19, s20, s21, s22, s23, s24, s25, s26, s27, s28, s29, s30, s31, s32, s33, s34, s35, s36, s37, s38, s39, s40, s41, s42, t43, t44, t45, t46, t47, t48, t49, t50, t51, t52, t53, t54, t55, t56, t57, t58, t59, t60, t61, t62, t63, t64, t65, t66, t67, t68, t69, t70, t71, t72, t73, t74, t75, t76, t77, t78, t79, t80, t81, t82, t83, t84, t85, t86, t87], defers := [] } X2)) :
    (nav roLaw [1, 1, 1, 1, 0, 1, 0, 1, 0, 0]).wpIn (Fence.wide.inRound l) n Tryd.prog Q { tmps := #[t0, t1, t2, t3, .pointer (some ⟨lb, 0, none⟩), .pointer (some ⟨mb, 0, none⟩), t6, .pointer (some ⟨nb, 0, none⟩), .pointer (some ⟨ab, 0, none⟩), .string (nm px), .int .i64 py, t11, t12, t13, t14, t15, t16, t17, t18, t19, t20, t21, t22, t23, t24, t25, t26, t27, t28, t29, t30, t31, t32, t33, t34, t35, t36, t37, t38, t39, t40, t41, t42, t43, t44, t45, t46, t47, t48, t49, t50, t51, t52, t53, t54, t55, t56, t57, t58, t59, t60, t61, t62, t63, t64, t65, t66, t67, t68, t69, t70, t71, t72, t73, t74, t75, t76, t77, t78, t79, t80, t81, t82, t83, t84, t85, t86, t87], defers := [] } X := by
  have hlt : k < q := by rw [E.qe]; exact (List.getElem?_eq_some_iff.1 hp).1
  have bwX : Below w.heap.size w X := hI.bel E.bw E.nw
  obtain ⟨g, px', py', rfl, z0, z1, hin, hp', hg⟩ := E.look bwX hlt
  rw [hp] at hp'
  obtain ⟨rfl, rfl⟩ : px = px' ∧ py = py' := by simpa using hp'
  have hqb := E.qb
  have cn := hI.nbx.cell
  have cl : X.cell? ⟨lb, 0, none⟩ = some (.slice (some ⟨g, 0, none⟩) q c) := Boxed.cell (hI.box E.l E.nl)
  have NM := hide (name_ok px hin X (E.tw X bwX))
  have mi : (k : Int) < (q : Int) := by omega
  have HI := hide hI
  have ll := E.l.lt
  have hUX := hI.size
  have hnu := E.nu
  have hgX := Nat.lt_of_lt_of_le hg bwX.size
  clear hI E hp hp' bwX hin
  obtain ⟨S, hS⟩ : ∃ S, S = nm px := ⟨_, rfl⟩
  simp only [← hS]
  rw [← hS] at NM
  simp only [← hS] at hQ
  clear hS
  simp only [roLaw, nav, Tryd.f9, Option.getD_some]
  gi_wp2_with fail
  refine ⟨trivial, fun h => by simp [Fence.wide] at h, (CallsIn.inRound l (callsIn_wide.2 (unhide NM))).mono ?_⟩
  rintro e X2 ⟨rfl, b2⟩
  have hI2 := (unhide HI).below hnu b2
  have cn2 := hI2.nbx.cell
  have cl2 := (b2.cell (p := ⟨lb, 0, none⟩) (by show lb < X.heap.size; omega)).trans cl
  have z12 := (b2.cell (p := ⟨g, k * 2 + 1, none⟩) hgX).trans z1
  have B2 := hide b2
  clear hI2 b2 NM HI
  gi_wp2
  exact unhide hQ _ _ _ _ _ _ _ _ _ _ _ _ _ _ _ _ _ _ _ _ _ _ _ X2 (unhide B2)
theorem ro_eq : nav roLaw [1, 1, 1, 1, 0, 1, 0, 1] = .block 1 (.seq (nav roLaw [1, 1, 1, 1, 0, 1, 0, 1, 0, 0]) (nav roLaw [1, 1, 1, 1, 0, 1, 0, 1, 0, 1])) := by kernel_rfl
/-- what the loop of rangedOver keeps, and how it is left early -/
def RoJ (U : World) (nb : Nat) (limit : Int) (pre : List (ByteArray × Int)) (X : World) : Prop := RoI U nb pre.length X ∧ (1 ≤ limit → (pre.length : Int) < limit)
def RoX (U : World) (nb : Nat) (limit : Int) (c : Code) (pre : List (ByteArray × Int)) (X : World) : Prop := c = .exit 0 ∧ (pre.length : Int) = limit ∧ 1 ≤ limit ∧ RoI U nb pre.length X
set_option maxRecDepth 100000 in
set_option maxHeartbeats 1000000 in
theorem ro_body {w U X : World} {B : Nat} {F : Nat → Prop} {b : Nat} {M : Option Nat} {rs : List Rw} {nx : Nat} {ps : List Pr} {a : Option Addr} {q c l n lb mb nb ob ab : Nat} {limit : Int} {N : Nat} {pre : List (ByteArray × Int)} {x : ByteArray × Int} {t0 t1 t2 t3 t6 t11 t12 t13 t14 t15 t16 t17 t18 t19 t20 t21 t22 t23 t24 t25 t26 t27 t28 t29 t30 t31 t32 t33 t34 t35 t36 t37 t38 t39 t40 t41 t42 t43 t44 t45 t46 t47 t48 t49 t50 t51 t52 t53 t54 t55 t56 t57 t58 t59 t60 t61 t62 t63 t64 t65 t66 t67 t68 t69 t70 t71 t72 t73 t74 t75 t76 t77 t78 t79 t80 t81 t82 t83 t84 t85 t86 t87 : Value} (E : RoE w U B F b M rs nx ps a q c limit lb mb nb ob ab) (hJ : RoJ U nb limit pre X) (hnx : NxE (ents rs) pre x) (hn : 2 ≤ n) (hl : ∃ r, X.heap[l]? = some (.loop r)) (hN : N + 1 < X.heap.size) (hNn : N + 1 ≠ nb) :
    (nav roLaw [1, 1, 1, 1, 0, 1, 0, 1]).wpIn (Fence.wide.inRound l) n Tryd.prog (postT U.heap.size (KpE N x) (RoJ U nb limit) (RoX U nb limit) (pre ++ [x]) X) { tmps := #[t0, t1, t2, t3, .pointer (some ⟨lb, 0, none⟩), .pointer (some ⟨mb, 0, none⟩), t6, .pointer (some ⟨nb, 0, none⟩), .pointer (some ⟨ab, 0, none⟩), .string x.1, .int .i64 x.2, t11, t12, t13, t14, t15, t16, t17, t18, t19, t20, t21, t22, t23, t24, t25, t26, t27, t28, t29, t30, t31, t32, t33, t34, t35, t36, t37, t38, t39, t40, t41, t42, t43, t44, t45, t46, t47, t48, t49, t50, t51, t52, t53, t54, t55, t56, t57, t58, t59, t60, t61, t62, t63, t64, t65, t66, t67, t68, t69, t70, t71, t72, t73, t74, t75, t76, t77, t78, t79, t80, t81, t82, t83, t84, t85, t86, t87], defers := [] } X := by
  obtain ⟨hI, hlim⟩ := hJ
  obtain ⟨hlt, p, hp, rfl⟩ := nx_at E.rel hnx
  obtain ⟨px, py⟩ := p
  rw [ro_eq]
  refine wpIn_block (wpIn_seq ?_)
  refine ro_chk E hI hp (hide ?_)
  intros s20 s21 s22 s23 s24 s25 s26 s27 s28 s29 s30 s31 s32 s33 s34 s35 s36 s37 s38 s39 s40 s41 s42 X2 b2
  obtain ⟨r0, hr0⟩ := hl
  have hnu := E.nu
  have fin : ∀ Y, Below X2.heap.size X2 Y → KeepsFrom U.heap.size X (Y.setCell ⟨nb, 0, none⟩ (.int .i64 ((pre.length : Int) + 1))) ∧ KpE N (nm px, py) X (Y.setCell ⟨nb, 0, none⟩ (.int .i64 ((pre.length : Int) + 1))) ∧ RoI U nb (pre ++ [(nm px, py)]).length (Y.setCell ⟨nb, 0, none⟩ (.int .i64 ((pre.length : Int) + 1))) := fun Y bY => by
    have hb := b2.trans (bY.mono b2.size)
    refine ⟨(keepsFrom_below' hb).trans ((KeepsOthers.setCell _ _ _).from _), ⟨by simpa using hb.size, (Below.heap_setCell _ ⟨nb, 0, none⟩ _ _ hNn).trans (hb.block _ hN)⟩, ?_⟩
    rw [List.length_append]
    have := (hI.below hnu hb).set (pre.length + 1)
    simpa using this
  refine ro_tail E (hI.below hnu b2) (by rw [E.qe]; exact hlt) hn ⟨r0, (b2.block l (Array.getElem?_eq_some_iff.1 hr0).1).trans hr0⟩ (hide ?_) (hide ?_)
  · intro hne a' Y bY
    obtain ⟨f1, f2, f3⟩ := fin Y bY
    refine ⟨f1, f2, f3, fun h1 => ?_⟩
    have := hlim h1
    rw [List.length_append]
    simp
    omega
  · intro he a' Y bY
    obtain ⟨f1, f2, f3⟩ := fin Y bY
    refine ⟨f1, f2, rfl, ?_, ?_, f3⟩
    · rw [List.length_append, ← he]
      simp
    · omega
end Go.Proofs.YtlgmonphhimbdaaDoor.tab
