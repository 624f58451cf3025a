import Derived.Test.YtlgmonphhimbdaaDoorTbf
namespace Go.Proofs.YtlgmonphhimbdaaDoor.tab
open Go.ChangeShapes Go.WideShapes Go.ChangeAt Go.RowKit Go.Maps Go.Shelf
open wk
attribute [local go_sem] Oper.semAt_some
set_option linter.unusedVariables false
set_option linter.unusedSimpArgs false
theorem funcNil (f : Fn) (lb : Array Value) (w : World) : (binOp BinOp.eql 55 (.func f #[] lb) .nilFunc).run Tryd.prog w = .ok (.bool false) w := by kernel_rfl
set_option maxRecDepth 100000 in
set_option maxHeartbeats 1000000 in
theorem ro_tail0 {w U X : World} {B : Nat} {F : Nat → Prop} {b : Nat} {M : Option Nat} {rs : List Rw} {nx : Nat} {ps : List Pr} {a : Option Addr} {q c k l n lb mb nb ob ab : Nat} {limit : Int} {Q : Exit → Act → World → Prop} {t0 t1 t2 t3 t6 t9 t10 t11 t12 t13 t14 t15 t16 t17 t18 t19 t20 t21 t22 t23 t24 t25 t26 t27 t28 t29 t30 t31 t32 t33 t34 t35 t36 t37 t38 t39 t40 t41 t42 t43 t44 t45 t46 t47 t48 t49 t50 t51 t52 t53 t54 t55 t56 t57 t58 t59 t60 t61 t62 t63 t64 t65 t66 t67 t68 t69 t70 t71 t72 t73 t74 t75 t76 t77 t78 t79 t80 t81 t82 t83 t84 t85 t86 t87 : Value} (E : RoE w U B F b M rs nx ps a q c limit lb mb nb ob ab) (hI : RoI U nb 0 X) (hkq : 0 < q) (hn : 2 ≤ n) (hl : ∃ r, X.heap[l]? = some (.loop r))
    (hQ1 : Hid (¬ (1 : Int) = limit → ∀ a' Y, Below X.heap.size X Y → Q .normal a' (Y.setCell ⟨nb, 0, none⟩ (.int .i64 1)))) (hQ2 : Hid ((1 : Int) = limit → ∀ a' Y, Below X.heap.size X Y → Q (.exit 0) a' (Y.setCell ⟨nb, 0, none⟩ (.int .i64 1)))) :
    (nav roLaw [1, 1, 1, 1, 0, 1, 0, 1, 0, 1]).wpIn (Fence.wide.inRound l) n Tryd.prog Q { tmps := #[t0, t1, t2, t3, .pointer (some ⟨lb, 0, none⟩), .pointer (some ⟨mb, 0, none⟩), t6, .pointer (some ⟨nb, 0, none⟩), .pointer (some ⟨ab, 0, none⟩), t9, t10, t11, t12, t13, t14, t15, t16, t17, t18, t19, t20, t21, t22, t23, t24, t25, t26, t27, t28, t29, t30, t31, t32, t33, t34, t35, t36, t37, t38, t39, t40, t41, t42, t43, t44, t45, t46, t47, t48, t49, t50, t51, t52, t53, t54, t55, t56, t57, t58, t59, t60, t61, t62, t63, t64, t65, t66, t67, t68, t69, t70, t71, t72, t73, t74, t75, t76, t77, t78, t79, t80, t81, t82, t83, t84, t85, t86, t87], defers := [] } X := by
  have c7 : X.cell? ⟨nb, 0, none⟩ = some (.int .i64 0) := hI.nbx.cell
  have bwX : Below w.heap.size w X := hI.bel E.bw E.nw
  have hUX := hI.size
  have hnu := E.nu
  have lf := E.f.lt
  have ll := E.l.lt
  have lm := E.m.lt
  have lo := E.o.lt
  have hqb := E.qb
  obtain ⟨X3, eX3⟩ : ∃ X3, X3 = X.alloc (.cells #[.int .i64 0] 3) := ⟨_, rfl⟩
  have b3 : Below X.heap.size X X3 := by rw [eX3]; exact (Below.refl _ _).alloc (Nat.le_refl _) _
  have s3 : X3.heap.size = X.heap.size + 1 := by rw [eX3]; simp
  have m3 : Boxed X3 X.heap.size 3 (.int .i64 0) := by rw [eX3]; exact Boxed.new X _ _
  have hI3 := hI.below hnu b3
  have c6 : X3.cell? ⟨ab, 0, none⟩ = some (.func (.func 28) #[] #[.pointer (some ⟨ob, 0, none⟩)]) := Boxed.cell (hI3.box E.f E.nf)
  have bw3 : Below w.heap.size w X3 := bwX.trans (b3.mono bwX.size)
  have co : X3.cell? ⟨ob, 0, none⟩ = some (.pointer (some ⟨b, 0, none⟩)) := Boxed.cell (hI3.box E.o E.no)
  have T3 := hide (E.tb.below bw3)
  have HM3 := hide m3
  have HB3 := hide b3
  have EX3 := hide eX3
  have HI3 := hide hI3
  have HE := hide E
  have HL := hide hl
  have S3 := hide s3
  have HBW := hide bw3
  have HCO := hide co
  have lR := E.rel.len
  have lq := E.qe
  have HR := hide (show (ents rs).length = q by rw [ents_len, lR, ← lq])
  rw [eX3] at c6
  clear m3 b3 eX3 hI3 E hI hl s3 bwX bw3 co lR lq
  simp only [roLaw, nav, Tryd.f9, Option.getD_some]
  gi_wp2_with fail
  rw [← unhide EX3]
  have s3 := unhide S3
  have bw3 := unhide HBW
  obtain ⟨r0, hr0⟩ := unhide HL
  have hl3 : X3.heap[l]? = some (.loop r0) := ((unhide HB3).block l (Array.getElem?_eq_some_iff.1 hr0).1).trans hr0
  clear c6 c7
  refine wpT_N (α := ByteArray × Int) (l₀ := l) (r₀ := r0) rfl hl3 (by omega) (gf := 28) (lb := #[.pointer (some ⟨ob, 0, none⟩)]) rfl trivial (enters_of Tryd.func28 (by kernel_rfl) rfl)
    (encs := encE) (Rd := RdE (X3.heap.size + 1)) (C := CE) (Kp := KpE (X3.heap.size + 1)) (S := fun xs => xs = ents rs) (Sp := SpE (ents rs)) (Nx := NxE (ents rs))
    (fun W1 hb hs => by
      have := all_seq ((unhide T3).below hb) (by have := (unhide HE).rel.len; have := (unhide HE).qe; omega) (n - 1) (by omega) (Bo := ob) ((hb.cell (p := ⟨ob, 0, none⟩) (by show ob < X3.heap.size; omega)).trans (unhide HCO))
      rw [hs] at this
      exact this.inRound l)
    (fun A B hc h => hc.block _ h)
    (fun x {A B C} h1 h2 => ⟨Nat.le_trans h1.1 h2.1, h2.2.trans h1.2⟩) (fun x W o o' _ => ⟨by simp, World.putObj_heap_other (by omega)⟩) (fun _ => rfl)
    (fun pre Y => RoI X3 X.heap.size pre.length Y) (fun _ _ _ => False)
    (fun pre A B h hc => h.below (by omega) hc)
    (fun c pre A B h _ => h)
    (fun pre A B row h hg hr => h.keep (by omega) hg.os hg.tape hg.output hg.size (fun j hj => hg.block j (by have := h.size; omega) (fun e => by have := (hr j e.symm).1; omega)))
    (fun c pre A B row h _ _ => h)
    ⟨rfl, rfl, rfl, Nat.le_refl _, unhide HM3, fun _ _ _ => rfl⟩
    (fun x a' Y => X3.heap.size + 3 ≤ Y.heap.size ∧ a' = { tmps := #[t0, t1, t2, t3, .pointer (some ⟨lb, 0, none⟩), .pointer (some ⟨mb, 0, none⟩), t6, .pointer (some ⟨nb, 0, none⟩), .pointer (some ⟨ab, 0, none⟩), t9, t10, .pointer (some ⟨X.heap.size, 0, none⟩), .string x.1, t13, t14, t15, t16, t17, t18, t19, t20, t21, t22, t23, t24, t25, t26, t27, t28, t29, t30, t31, t32, t33, t34, t35, t36, t37, t38, t39, t40, t41, t42, .int .i64 0, .bool true, .func (.func 28) #[] #[.pointer (some ⟨ob, 0, none⟩)], .string x.1, .int .i64 x.2, t48, t49, t50, t51, t52, t53, t54, t55, t56, t57, t58, t59, t60, t61, t62, t63, t64, t65, t66, t67, t68, t69, t70, t71, t72, t73, t74, t75, t76, t77, t78, t79, t80, t81, t82, t83, t84, t85, t86, t87], defers := [] })
    (fun x a' _ Y Y' row hs hg hr => ⟨Nat.le_trans hs.1 hg.size, hs.2⟩)
    ?assign ?body ?done ?stop
  case assign =>
    rintro l2 pre x Y K hJ hRd - hK
    have HJ := hide hJ
    have HRd := hide hRd
    clear hJ hRd
    unfold encE
    gi_wp2
    exact hK _ _ (KeepsFrom.refl _ _) ⟨Nat.le_refl _, rfl⟩ (unhide HJ) ⟨unhide HRd, rfl⟩
  case body =>
    rintro l2 pre x a' Y hl2 - hJ ⟨hG2, rfl⟩ hnx
    exact ro_inner (unhide HE) (unhide HI3) (by omega) hUX hJ hnx (by omega) (by omega) (by omega)
  case done =>
    rintro xs Y rfl hJ
    have hlen := unhide HR
    have cm := hJ.nbx.cell
    rw [hlen] at cm
    have hY := unhide HI3
    have bY : Below X.heap.size X Y := (unhide HB3).trans ⟨hJ.os, hJ.tape, hJ.output, hJ.size, fun j hj => hJ.blk j (by omega) (by omega)⟩
    have c5 : Y.cell? ⟨lb, 0, none⟩ = some (.slice a q c) := Boxed.cell (hJ.box (hY.box (unhide HE).l (unhide HE).nl) (by omega))
    have c8 : Y.cell? ⟨mb, 0, none⟩ = some (.int .i64 limit) := Boxed.cell (hJ.box (hY.box (unhide HE).m (unhide HE).nm) (by omega))
    have n7 : Boxed Y nb 3 (.int .i64 0) := hJ.box hY.nbx (by omega)
    have c7 := n7.cell
    have f7 := n7.frozen
    have c8' := (World.cell?_setCell_far Y ⟨nb, 0, none⟩ ⟨mb, 0, none⟩ (.int .i64 1) (fun e => (unhide HE).nm e.symm)).trans c8
    have BY := hide bY
    clear hJ hY hlen bY n7
    by_cases hlim : (1 : Int) = limit
    · subst hlim
      have F2 := hide (fun a' => unhide hQ2 rfl a' Y (unhide BY))
      gi_wp2
      exact unhide F2 _
    · have F1 := hide (fun a' => unhide hQ1 hlim a' Y (unhide BY))
      gi_wp2
      exact unhide F1 _
  case stop => exact fun _ _ _ _ h => h.elim
end Go.Proofs.YtlgmonphhimbdaaDoor.tab
