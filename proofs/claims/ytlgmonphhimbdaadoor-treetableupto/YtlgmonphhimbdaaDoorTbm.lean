import Derived.Test.YtlgmonphhimbdaaDoorTbl
namespace Go.Proofs.YtlgmonphhimbdaaDoor.tab
open Go.ChangeShapes Go.WideShapes Go.ChangeAt Go.RowKit Go.Maps Go.Shelf
open wk
attribute [local go_sem] Oper.semAt_some
set_option linter.unusedVariables false
set_option linter.unusedSimpArgs false
theorem has_put {ps : List Pr} {k v j : Int} (h : hasP ps j = true) : hasP (putP ps k v) j = true := by
  unfold hasP at h
  rw [List.any_eq_true] at h
  obtain ⟨p, hp, he⟩ := h
  unfold putP
  split
  · unfold hasP
    rw [List.any_eq_true]
    refine ⟨setP k v p, List.mem_map.2 ⟨p, hp, rfl⟩, ?_⟩
    unfold setP
    split <;> exact he
  · unfold hasP
    rw [List.any_eq_true]
    exact ⟨p, List.mem_append.2 (.inl hp), he⟩
theorem has_drp {ps : List Pr} {k j : Int} (h : hasP ps j = true) (hne : j ≠ k) : hasP (drpP ps k) j = true := by
  unfold hasP at h ⊢
  rw [List.any_eq_true] at h ⊢
  obtain ⟨p, hp, he⟩ := h
  have e : p.1 = j := by simpa using he
  exact ⟨p, List.mem_filter.2 ⟨hp, by simpa [e] using hne⟩, he⟩
theorem nxR_le (rs : List Rw) (nx : Nat) (s : ByteArray) : nxR rs nx s ≤ nx + 1 := by
  unfold nxR
  split <;> omega
theorem wrap_in (x : Int) : InR (IntKind.i64.wrap x) := by
  rw [IntWalk.i64_left]
  unfold wrap64 InR
  omega
theorem wl_eq : nav wlLaw [1, 1, 1, 1, 1, 0, 1, 0, 1] = .block 1 (.seq (nav wlLaw [1, 1, 1, 1, 1, 0, 1, 0, 1, 0, 0]) (.seq (nav wlLaw [1, 1, 1, 1, 1, 0, 1, 0, 1, 0, 1, 0]) (nav wlLaw [1, 1, 1, 1, 1, 0, 1, 0, 1, 0, 1, 1]))) := by kernel_rfl
/-- what the loop keeps, whatever the table has become -/
def WlJ (U : World) (B : Nat) (F G : Nat → Prop) (b : Nat) (M : Option Nat) (nx0 : Nat) (ps0 : List Pr) (nb fb : Nat) (pre : List (ByteArray × Int)) (W : World) : Prop := ∃ X rs nx ps vf, WlI U B F G b M nx0 ps0 nb fb pre.length W X rs nx ps vf
theorem nx_of {L : List (ByteArray × Int)} {ps : List Pr} (h : L = ps.map nmP) {pre : List (ByteArray × Int)} {x : ByteArray × Int} (hn : NxE L pre x) : pre.length < ps.length ∧ ∃ p, ps[pre.length]? = some p ∧ x = (nm p.1, p.2) := by
  obtain ⟨k, hk, hp, hx⟩ := hn
  have e : pre.length = k := by rw [hp, List.length_take]; omega
  rw [h, List.length_map] at hk
  rw [h, List.getElem?_map] at hx
  subst e
  refine ⟨hk, ?_⟩
  cases hq : ps[pre.length]? with
  | none => rw [hq] at hx; cases hx
  | some p => rw [hq] at hx; exact ⟨p, rfl, (Option.some.inj hx).symm⟩
set_option maxRecDepth 100000 in
set_option maxHeartbeats 1000000 in
theorem wl_body {w U W : World} {B : Nat} {F G : Nat → Prop} {b : Nat} {M : Option Nat} {nx0 : Nat} {ps0 : List Pr} {a : Option Addr} {q c l n ob lb pb nb fb : Nat} {kd K V : Int} {L : List (ByteArray × Int)} {pre : List (ByteArray × Int)} {x : ByteArray × Int} {t0 t1 t2 t6 t7 t10 t13 t14 t15 t16 t17 t18 t19 t20 t21 t22 t23 t24 t25 t26 t27 t28 t29 t30 t31 t32 t33 t34 t35 t36 t37 t38 t39 t40 t41 t42 t43 t44 t45 t46 t47 t48 t49 t50 t51 t52 t53 t54 t55 t56 t57 t58 t59 t60 t61 t62 t63 t64 t65 t66 t67 t68 t69 t70 t71 t72 t73 t74 t75 t76 t77 t78 t79 t80 t81 t82 t83 t84 t85 t86 t87 t88 t89 t90 t91 t92 t93 t94 t95 t96 t97 t98 t99 t100 t101 : Value} (E : WlE w U B F G b M nx0 ps0 a q c kd K V ob lb pb nb fb) (hLL : L = ps0.map nmP) (hJ : WlJ U B F G b M nx0 ps0 nb fb pre W) (hnx : NxE L pre x) (hsz : U.heap.size + 4 ≤ W.heap.size) :
    (nav wlLaw [1, 1, 1, 1, 1, 0, 1, 0, 1]).wpIn (Fence.wide.inRound l) n Tryd.prog (postT U.heap.size (KpE (U.heap.size + 2) x) (WlJ U B F G b M nx0 ps0 nb fb) (fun _ _ _ => False) (pre ++ [x]) W) { tmps := #[t0, t1, t2, .pointer (some ⟨ob, 0, none⟩), .pointer (some ⟨lb, 0, none⟩), .pointer (some ⟨pb, 0, none⟩), t6, t7, .pointer (some ⟨nb, 0, none⟩), .pointer (some ⟨fb, 0, none⟩), t10, .string x.1, .int .i64 x.2, t13, t14, t15, t16, t17, t18, t19, t20, t21, t22, t23, t24, t25, t26, t27, t28, t29, t30, t31, t32, t33, t34, t35, t36, t37, t38, t39, t40, t41, t42, t43, t44, t45, t46, t47, t48, t49, t50, t51, t52, t53, t54, t55, t56, t57, t58, t59, t60, t61, t62, t63, t64, t65, t66, t67, t68, t69, t70, t71, t72, t73, t74, t75, t76, t77, t78, t79, t80, t81, t82, t83, t84, t85, t86, t87, t88, t89, t90, t91, t92, t93, t94, t95, t96, t97, t98, t99, t100, t101], defers := [] } W := by
  obtain ⟨X, rs, nx, ps, vf, hI⟩ := hJ
  obtain ⟨hlt, p, hp, rfl⟩ := nx_of hLL hnx
  obtain ⟨px, py⟩ := p
  rw [wl_eq]
  refine wpIn_block (wpIn_seq ?_)
  refine wl_chk E hI hp (hide ?_)
  intros s28 s29 s30 s31 s32 s33 s34 s35 s36 s37 s38 s39 s40 s41 s42 s43 s44 s45 s46 s47 s48 s49 s50 W2 b2
  have nU := E.nu
  have fU := E.fu
  have hI2 := hI.below nU fU b2
  have s2 := b2.size
  have hkq : pre.length < q := by rw [E.qe]; exact hlt
  obtain ⟨kj, hkj⟩ : ∃ kj, IntKind.i64.wrap (K + (pre.length : Nat)) = kj := ⟨_, rfl⟩
  have hin : InR kj := by rw [← hkj]; exact wrap_in _
  obtain ⟨fr, hfr⟩ : ∃ fr, (!hasP ps kj) = fr := ⟨_, rfl⟩
  have hfr' : (!(gtR rs (nm kj)).isSome) = fr := by rw [hI.rel.has]; exact hfr
  refine wpIn_seq ?_
  refine wpIn_mono (wl_put E hI2 (hide hfr') (hide hkj) hin hkq) ?_
  intro e a3 W3 h3
  cases e <;> try exact h3.elim
  obtain ⟨⟨X', M', t3, x1, x2, k3, m3⟩, rfl⟩ := h3
  have hMM : M' = M := by
    have hne : rs ≠ [] := by
      have := hI.here pre.length (px, py) (Nat.le_refl _) hp
      intro h0
      have hl := hI.rel.len
      rw [h0] at hl
      have : ps = [] := List.eq_nil_of_length_eq_zero (by simpa using hl.symm)
      subst this
      simp [hasP] at *
    rcases hI.tb.map with ⟨-, h0, -⟩ | ⟨m, kk, D, hm, -⟩
    · exact absurd h0 hne
    · rw [m3 m hm, hm]
  subst hMM
  have s3 := k3.size
  have sU := hI.kp.size
  have xX : ∀ j, X j → F j ∨ U.heap.size + 4 ≤ j := hI.xf
  have xX' : ∀ j, X' j → F j ∨ U.heap.size + 4 ≤ j := fun j hj => (x2 j hj).elim (xX j) (fun h => .inr (by omega))
  have loF : ∀ j, F j → j < w.heap.size := fun j hj => (E.lo j hj).2
  have swU := E.bw.size
  have wn := E.wn
  have wf := E.wf
  have nXn : ¬ X nb := fun h => (xX nb h).elim (fun h => by have := loF _ h; omega) (fun h => by omega)
  have nXf : ¬ X fb := fun h => (xX fb h).elim (fun h => by have := loF _ h; omega) (fun h => by omega)
  have K3 : WlK U F nb fb W3 := ⟨k3.os.trans hI2.kp.os, k3.tape.trans hI2.kp.tape, k3.output.trans hI2.kp.output, by omega, fun j h1 h2 h4 h5 => (k3.block j (by omega) (fun hx => (xX j hx).elim h2 (fun h => by omega))).trans (hI2.kp.blk j h1 h2 h4 h5)⟩
  have n3 : Boxed W3 nb 3 (.int .i64 (pre.length : Nat)) := (k3.block nb (by omega) nXn).trans hI2.n
  have f3 : Boxed W3 fb 29 vf := (k3.block fb (by omega) nXf).trans hI2.f
  have R3 := hI.rel.put nx kj V hin
  have L3 : RL W3 (fun j => ¬ X' j ∧ j ≠ nb ∧ j ≠ fb ∧ G j) vf ps :=
    ((hI2.rl.mono (N' := fun j => (¬ X j ∧ ¬ X' j) ∧ j ≠ nb ∧ j ≠ fb ∧ G j) (fun j h1 h4 => ⟨⟨h4.1, fun hx => (x2 j hx).elim h4.1 (fun h => by omega)⟩, h4.2⟩)).move k3.size (fun j h1 h4 => k3.block j h1 h4.1.1)).mono (fun j _ h4 => ⟨h4.1.2, h4.2⟩)
  have hps : ps.length ≤ 1048576 := by have := hI.len; have := E.qe; have := E.qb; omega
  refine wl_rest E K3 n3 f3 t3 R3 L3 hps (fun j h1 h2 hx => (xX' j hx).elim (fun h => by have := loF _ h; omega) (fun h => by omega)) hp (hide hfr) (hide hkj) (fun j h1 h2 hx => (xX' j hx).elim h1 (fun h => by omega)) (hide ?_)
  intro a' Y v R
  have kY := R.kx
  have sY := kY.size
  have nX'n : ¬ X' nb := fun h => (xX' nb h).elim (fun h => by have := loF _ h; omega) (fun h => by omega)
  have mlt : ∀ m, M' = some m → m < w.heap.size := fun m hm => loF m (E.mF m hm)
  have allk : ∀ j, j < W.heap.size → ¬ X j → j ≠ nb → j ≠ fb → Y.heap[j]? = W.heap[j]? := fun j h1 h2 h4 h5 =>
    (kY.block j (by omega) (fun h => h.elim (fun hx => (x2 j hx).elim h2 (fun h => by omega)) (fun h => h.elim h4 h5))).trans ((k3.block j (by omega) h2).trans (b2.block j h1))
  refine ⟨⟨by omega, fun j o h1 h2 h4 => ?_⟩, ⟨by omega, allk _ (by omega) (fun h => (xX _ h).elim (fun h => by have := loF _ h; omega) (fun h => by omega)) (by omega) (by omega)⟩, X', drpR (putR rs nx (nm kj) V) (nm px), nxR rs nx (nm kj), drpP (putP ps kj V) px, v, ?_⟩
  · have hj := (Array.getElem?_eq_some_iff.1 h2).1
    refine (allk j hj (fun hx => ?_) (by omega) (by omega)).trans h2
    rcases hI.tb.dat j hx with hm | ⟨cs, t, frz, hc⟩
    · have := mlt j hm; omega
    · rw [hc] at h2
      cases h2
      cases h4
  · have hl := E.qe
    have hh : hasP (putP ps kj V) px = true := has_put (hI.here pre.length (px, py) (Nat.le_refl _) hp)
    have hlt2 : (drpP (putP ps kj V) px).length < (putP ps kj V).length := by
      have := drp_lt (putP ps kj V) px
      rw [hh] at this
      simpa using this
    have hpl := put_len ps kj V
    have hil := hI.len
    have e1 : (pre ++ [(nm px, py)]).length = pre.length + 1 := by simp
    rw [e1]
    refine ⟨⟨kY.os.trans K3.os, kY.tape.trans K3.tape, kY.output.trans K3.output, by omega, fun j h1 h2 h4 h5 => (kY.block j (by omega) (fun h => h.elim (fun hx => (xX' j hx).elim h2 (fun h => by omega)) (fun h => h.elim h4 h5))).trans (K3.blk j h1 h2 h4 h5)⟩, R.tb, R3.drp px, fun i p hi hpi => ?_, by omega, ?_, ?_, R.f, R.rl, xX', fun j hj => x1 j (hI.fx j hj)⟩
    · refine has_drp (has_put (hI.here i p (by omega) hpi)) (fun e => ?_)
      have := E.dis i pre.length p (px, py) hpi hp e
      omega
    · have := nxR_le rs nx (nm kj)
      have := hI.nxb
      omega
    · have := R.n
      rw [show ((pre.length : Int) + 1) = ((pre.length + 1 : Nat) : Int) by omega] at this
      exact this
end Go.Proofs.YtlgmonphhimbdaaDoor.tab
