import Derived.Test.YthpcpminikmcbaaTws6
import Derived.Test.YthpcpminikmcbaaTwg11
import Derived.Test.YthpcpminikmcbaaTwg12
namespace Go.Proofs.Ythpcpminikmcbaa.og
open Go.ChangeShapes Go.WideShapes Go.ChangeAt Go.RowKit Go.Shelf
open vl hiding cB cFl cS cF cI cK cIt
open stp (St Pth St3)
open wk
attribute [local go_sem] Oper.semAt_some
set_option linter.unusedVariables false
set_option linter.unusedSimpArgs false
set_option maxHeartbeats 1000000 in
set_option maxRecDepth 6000 in
theorem sameW (aA aB : Option Addr) (n cA cB : Nat) (ss : List St) (w : World) (hA : Pth w aA n ss) (hB : Pth w aB n ss) (bn : n ≤ 8388608) :
    Calls Try.prog 11 #[.slice aA n cA, .slice aB n cB] w fun e w' => e = .returned (.bool true) ∧ Below w.heap.size w w' := by
  go_enter Try.func11, Try.ntmps11
  go_wp2_with fail
  go_loopw [5] (fun vk wr => ∃ k : Nat, k ≤ n ∧ vk = .int .i64 k ∧ Below w.heap.size w wr) (fun vk _ => n - (intOf vk).toNat)
  case atStart => exact ⟨0, Nat.zero_le _, rfl, Below.refl _ _⟩
  case round =>
    obtain ⟨k, hk, rfl, hbk⟩ := hrel
    by_cases hlt : k < n
    · have ki : (k : Int) < (n : Int) := by omega
      rcases (hA.below hbk).at_ with h0 | ⟨b, off, rfl, hbw, hcell⟩
      · omega
      rcases (hB.below hbk).at_ with h0 | ⟨b', off', rfl, hbw', hcell'⟩
      · omega
      obtain ⟨s, hs, u0, u1, u2⟩ := hcell k hlt
      obtain ⟨s', hs', v0, v1, v2⟩ := hcell' k hlt
      obtain rfl : s = s' := Option.some.inj (hs.symm.trans hs')
      obtain ⟨nm, ix, it⟩ := s
      clear hcell hs hcell' hs'
      simp only at u0 u1 u2 v0 v1 v2
      go_wp2_with fail
      go_region
      go_wp2
      go_roundw
      case rel => exact ⟨k + 1, by omega, by go_num, hbk.drew⟩
      case measure => simp [intOf]; omega
    · have ki : ¬ (k : Int) < (n : Int) := by omega
      go_wp2
      go_ret
      exact ⟨rfl, hbk⟩
/-- the world U, but for the count in one block -/
structure TwI (U : World) (nbk n : Nat) (X : World) : Prop where
  os : X.os = U.os
  tape : X.tape = U.tape
  output : X.output = U.output
  size : U.heap.size ≤ X.heap.size
  nb : Boxed X nbk 3 (.int .i64 (n : Nat))
  blk : ∀ b, b < U.heap.size → b ≠ nbk → X.heap[b]? = U.heap[b]?
theorem TwI.keep {U X Y : World} {nbk n : Nat} (h : TwI U nbk n X) (hn : nbk < U.heap.size) (ho : Y.os = X.os) (ht : Y.tape = X.tape) (hu : Y.output = X.output) (hs : X.heap.size ≤ Y.heap.size) (hb : ∀ b, b < U.heap.size → Y.heap[b]? = X.heap[b]?) : TwI U nbk n Y :=
  ⟨ho.trans h.os, ht.trans h.tape, hu.trans h.output, Nat.le_trans h.size hs, (hb _ hn).trans h.nb, fun b h1 h2 => (hb b h1).trans (h.blk b h1 h2)⟩
theorem TwI.below {U X Y : World} {nbk n : Nat} (h : TwI U nbk n X) (hn : nbk < U.heap.size) (hb : Below X.heap.size X Y) : TwI U nbk n Y :=
  h.keep hn hb.os hb.tape hb.output hb.size (fun b hl => hb.block b (Nat.lt_of_lt_of_le hl h.size))
theorem TwI.ch {U X Y : World} {nbk n B : Nat} (h : TwI U nbk n X) (hn : nbk < U.heap.size) (hB : U.heap.size ≤ B) (hc : Ch B none 0 X Y) : TwI U nbk n Y :=
  h.keep hn hc.os hc.tape hc.output hc.size (fun b hl => hc.block b (by omega) (by simp))
theorem TwI.grown {U X Y : World} {nbk n : Nat} (h : TwI U nbk n X) (hn : nbk < U.heap.size) {row : Option Nat} (hg : X.grownBy Y row) (hr : ∀ r, row = some r → U.heap.size ≤ r) : TwI U nbk n Y :=
  h.keep hn hg.os hg.tape hg.output hg.size (fun b hl => hg.block b (Nat.lt_of_lt_of_le hl h.size) (fun e => by have := hr b e.symm; omega))
theorem TwI.ovr {U X Y : World} {nbk n : Nat} (h : TwI U nbk n X) (hn : nbk < U.heap.size) {G : Option Nat} (ho : OvR X G Y) (hg : ∀ g, G = some g → U.heap.size ≤ g) : TwI U nbk n Y :=
  h.keep hn ho.os ho.tape ho.output (Nat.le_of_eq ho.size.symm) (fun b hl => ho.block b (fun e => by have := hg b e.symm; omega))
theorem TwI.set {U X : World} {nbk n : Nat} (h : TwI U nbk n X) (m : Nat) : TwI U nbk m (X.setCell ⟨nbk, 0, none⟩ (.int .i64 (m : Nat))) :=
  ⟨h.os, h.tape, h.output, by simpa using h.size, h.nb.set _, fun b h1 h2 => (Below.heap_setCell _ ⟨nbk, 0, none⟩ _ _ h2).trans (h.blk b h1 h2)⟩
theorem TwI.bel {U0 U X : World} {nbk n : Nat} (h : TwI U nbk n X) (hb : Below U0.heap.size U0 U) (hn : U0.heap.size ≤ nbk) : Below U0.heap.size U0 X :=
  hb.trans ⟨h.os, h.tape, h.output, h.size, fun k hk => h.blk k (by have := hb.size; omega) (by omega)⟩
theorem TwI.box {U X : World} {nbk n : Nat} (h : TwI U nbk n X) {b : Nat} {t : TypeId} {v : Value} (hb : Boxed U b t v) (hn : b ≠ nbk) : Boxed X b t v := (h.blk b hb.lt hn).trans hb
/-- what TreeWalks has laid down ahead of its loops -/
structure TwE (w U1 U2 U : World) (V : Vl) (N c : Nat) (a : Option Addr) (G : List Nat) (stop : Int) (pbk sbk nbk : Nat) : Prop where
  sm : Small V
  cn : cnt V ≤ 1048576
  b1 : Below w.heap.size w U1
  b2 : Below U1.heap.size U1 U2
  b3 : Below U2.heap.size U2 U
  gr : Grow (OwP U1) 44 9 U2 U1.heap.size (pts V []) (.slice a N c) G
  pb : Boxed U pbk 38 (.slice a N c)
  sb : Boxed U sbk 3 (.int .i64 stop)
  np : pbk ≠ nbk
  ns : sbk ≠ nbk
  nl : U2.heap.size ≤ nbk
  nu : nbk < U.heap.size
theorem lk_at : ∀ {l : List (List St × Vl)} {d k : Nat} {q : List St × Vl}, Lk l d → l[k]? = some q → q.1.length ≤ d + k + 1
  | [], d, k, q, h, hk => by simp at hk
  | a :: l, d, 0, q, h, hk => by
    obtain rfl : a = q := by simpa using hk
    have := h.1
    omega
  | a :: l, d, k + 1, q, h, hk => by
    have h1 := h.1
    have := lk_at h.2 (by simpa using hk : l[k]? = some q)
    omega
/-- what a round reads of the list of parts -/
theorem look {w U1 U2 U X : World} {V : Vl} {N c pbk sbk nbk k k' : Nat} {a : Option Addr} {G : List Nat} {stop : Int} {ss : List St} {xv : Vl} (E : TwE w U1 U2 U V N c a G stop pbk sbk nbk) (hk : (pts V [])[k]? = some (ss, xv)) (hI : TwI U nbk k' X) :
    ∃ g ap cp us, a = some ⟨g, 0, none⟩ ∧ N = (pts V []).length ∧ k < N ∧ N ≤ 1048576 ∧ Boxed X pbk 38 (.slice a N c) ∧ Boxed X sbk 3 (.int .i64 stop) ∧ g < X.heap.size ∧ VlC X xv us ∧ Pth X ap ss.length ss ∧ X.cell? ⟨g, k * 9, none⟩ = some (.slice ap ss.length cp) ∧ X.rangeAt g (k * 9 + 1) us ∧ ss.length ≤ 1048576 ∧ Small xv := by
  obtain ⟨g, ap, m, cp, us, ea, en, hg, hv, hp, hc, hr⟩ := part_get E.gr hk
  have hX := hI.bel E.b3 E.nl
  have hlt := (List.getElem?_eq_some_iff.1 hk).1
  have hl := pts_len V []
  have hcn := E.cn
  have hlk := lk_at (lk_pts V [] 0 (by simp)) hk
  have hm : ss.length = m := hp.len
  refine ⟨g, ap, cp, us, ea, en, by omega, by omega, hI.box E.pb E.np, hI.box E.sb E.ns, Nat.lt_of_lt_of_le hg hX.size, VlC.below (E.b2.trans (hX.mono E.b2.size)) _ _ hv, hm ▸ hp.below hX, by rw [hm]; exact (hX.cell (p := ⟨g, k * 9, none⟩) hg).trans hc, fun j u hu => (hX.cell (p := ⟨g, k * 9 + 1 + j, none⟩) hg).trans (hr j u hu), ?_, pts_small V E.sm _ (List.mem_of_getElem? hk)⟩
  have : ss.length ≤ 0 + k + 1 := hlk
  omega
theorem keepsFrom_ovr {B : Nat} {X Y : World} {Bp : Nat} {ss : List St} {sl : Value} (hG : GrS Bp ss sl X) (h : OvR X sl.ownBlock Y) : KeepsFrom B X Y := by
  refine ⟨Nat.le_of_eq h.size.symm, fun k o _ hk ho => ?_⟩
  by_cases e : some k = sl.ownBlock
  · obtain ⟨xss, h1, -⟩ := hG
    rcases h1.2 with ⟨e', -⟩ | ⟨g, cap, cur, e', -, hh, -⟩
    · rw [e'] at e; cases e
    · rw [e'] at e
      obtain rfl : k = g := by simpa [Value.ownBlock] using e
      rw [hh] at hk
      cases hk
      cases ho
  · exact (h.block k e).trans hk
theorem kz_ovr {Z : Nat → Prop} {X Y : World} {G : Option Nat} (h : OvR X G Y) : Kz Z G X Y := ⟨h.os, h.tape, h.output, Nat.le_of_eq h.size.symm, fun b _ _ hn => h.block b hn⟩
theorem b1_eq : nav twLaw [1, 1, 1, 1, 1, 1, 0, 1, 0, 1] = .block 1 (.seq (.seq (nav twLaw [1, 1, 1, 1, 1, 1, 0, 1, 0, 1, 0, 0, 0]) (.cond (.tmp 49) (nav twLaw [1, 1, 1, 1, 1, 1, 0, 1, 0, 1, 0, 0, 1, 0]) .skip)) (nav twLaw [1, 1, 1, 1, 1, 1, 0, 1, 0, 1, 0, 1])) := by kernel_rfl
/-- how the first loop is left early -/
def TwX (U : World) (nbk : Nat) (stop : Int) {w : World} (c : Code) (pre : List (Wel w)) (X : World) : Prop := c = .exit 0 ∧ (pre.length : Int) = stop ∧ TwI U nbk pre.length X
set_option maxRecDepth 100000 in
set_option maxHeartbeats 1000000 in
theorem body1 {w U1 U2 U X : World} {V : Vl} {N c pbk sbk nbk B0 B Bq l n : Nat} {a : Option Addr} {G : List Nat} {stop : Int} {pre : List (Wel w)} {x : Wel w} {Z : Nat → Prop} {t0 t1 t2 t4 t6 t10 t11 t12 t13 t14 t15 t16 t17 t18 t19 t20 t21 t22 t23 t24 t25 t26 t27 t28 t29 t30 t31 t32 t33 t34 t35 t36 t37 t38 t39 t40 t41 t42 t43 t44 t45 t46 t47 t48 t49 t50 t51 t52 t53 t54 t55 t56 t57 t58 t59 t60 t61 t62 t63 t64 t65 t66 t67 t68 t69 t70 t71 t72 t73 t74 t75 t76 t77 t78 t79 t80 t81 t82 t83 t84 t85 t86 t87 t88 t89 t90 t91 t92 t93 t94 t95 t96 t97 t98 t99 t100 t101 t102 t103 t104 t105 t106 t107 t108 t109 t110 t111 t112 t113 t114 t115 t116 t117 t118 t119 t120 t121 t122 t123 t124 t125 t126 t127 t128 t129 t130 t131 t132 t133 t134 t135 t136 : Value} (E : TwE w U1 U2 U V N c a G stop pbk sbk nbk) (hI : TwI U nbk pre.length X) (hst : 1 ≤ stop → (pre.length : Int) < stop) (hnx : ∃ r, pre.map Wel.pv ++ x.pv :: r = pts V [])
    (hGx : GrS B x.ss x.sl X) (hB : U.heap.size ≤ B) (hBq : Bq < X.heap.size) (hrq : X.rangeAt Bq 0 x.cs) (hZ : ¬ Z nbk) :
    (nav twLaw [1, 1, 1, 1, 1, 1, 0, 1, 0, 1]).wpIn (Fence.wide.inRound l) n Try.prog (postT B0 (fun A A' => Kz Z x.sl.ownBlock A A') (fun pre X => TwI U nbk pre.length X ∧ (1 ≤ stop → (pre.length : Int) < stop)) (TwX U nbk stop) (pre ++ [x]) X) { tmps := #[t0, t1, t2, .pointer (some ⟨sbk, 0, none⟩), t4, .pointer (some ⟨pbk, 0, none⟩), t6, .pointer (some ⟨nbk, 0, none⟩), x.sl, .pointer (some ⟨Bq, 0, none⟩), t10, t11, t12, t13, t14, t15, t16, t17, t18, t19, t20, t21, t22, t23, t24, t25, t26, t27, t28, t29, t30, t31, t32, t33, t34, t35, t36, t37, t38, t39, t40, t41, t42, t43, t44, t45, t46, t47, t48, t49, t50, t51, t52, t53, t54, t55, t56, t57, t58, t59, t60, t61, t62, t63, t64, t65, t66, t67, t68, t69, t70, t71, t72, t73, t74, t75, t76, t77, t78, t79, t80, t81, t82, t83, t84, t85, t86, t87, t88, t89, t90, t91, t92, t93, t94, t95, t96, t97, t98, t99, t100, t101, t102, t103, t104, t105, t106, t107, t108, t109, t110, t111, t112, t113, t114, t115, t116, t117, t118, t119, t120, t121, t122, t123, t124, t125, t126, t127, t128, t129, t130, t131, t132, t133, t134, t135, t136], defers := [] } X := by
  obtain ⟨r, hnx⟩ := hnx
  obtain ⟨xss, xv, xcs, xhv, xa, xc⟩ := x
  have hk : (pts V [])[pre.length]? = some (xss, xv) := by
    rw [← hnx, List.getElem?_append_right (by simp)]
    simp [Wel.pv]
  obtain ⟨g, ap, cp, us, rfl, hNl, hkN, hN, hpb, hsb, hg, hvu, hpp, hc, hr, hss, hSx⟩ := look E hk hI
  have hGx : GrS B xss (.slice xa xss.length xc) X := hGx
  obtain ⟨-, hPx, -⟩ := grs_pth' hGx
  have hXw : Below w.heap.size w X := E.b1.trans ((E.b2.trans ((hI.bel E.b3 E.nl).mono E.b2.size)).mono E.b1.size)
  have hxX : VlC X xv xcs := VlC.below hXw _ _ xhv
  have SS := hide (fun W (hW : Below X.heap.size X W) => sameW xa ap xss.length xc cp xss W (hPx.below hW) (hpp.below hW) (by omega))
  have WH := hide (fun W (hW : Below X.heap.size X W) => whole_eq xv hSx xcs us W (VlC.below hW _ _ hxX) (VlC.below hW _ _ hvu))
  obtain ⟨xkd, xb, xm, xf, xtx, xty, xits, xfls⟩ := xv
  unfold VlC at hxX hvu
  obtain ⟨xai, xni, xci, xaf, xnf, xcf, rfl, -⟩ := hxX
  obtain ⟨uai, uni, uci, uaf, unf, ucf, rfl, -⟩ := hvu
  rw [b1_eq]
  refine wpIn_block (wpIn_seq (wpIn_seq ?_))
  refine wpIn_mono (chk1 hI.nb hpb hkN hN hg hc hr hBq hrq SS WH) ?_
  intro e a2 X2 h2
  cases e <;> try exact h2.elim
  obtain ⟨bX2, rfl⟩ := h2
  refine wpIn_cond_false rfl (wpIn_skip ?_)
  have hI2 := hI.below E.nu bX2
  have hG2 : GrS B xss (.slice xa xss.length xc) X2 := Ch.grs_far (Ch.of_below (G := none) (m := 0) (fun g e => by cases e) bX2) (fun q hq => ⟨(hGx.lt q hq).2, by simp⟩) hGx
  have hown : ∀ q, (Value.slice xa xss.length xc).ownBlock = some q → U.heap.size ≤ q := fun q hq => Nat.le_trans hB (hGx.lt q hq).1
  have nn : some nbk ≠ (Value.slice xa xss.length xc).ownBlock := fun e => by have := hown nbk e.symm; have := E.nu; omega
  have nsb : some sbk ≠ (Value.slice xa xss.length xc).ownBlock := fun e => by have := hown sbk e.symm; have := E.sb.lt; omega
  have KP : ∀ Y, OvR X2 (Value.slice xa xss.length xc).ownBlock Y → KeepsFrom B0 X (Y.setCell ⟨nbk, 0, none⟩ (.int .i64 ((pre.length : Nat) + 1))) ∧ Kz Z (Value.slice xa xss.length xc).ownBlock X (Y.setCell ⟨nbk, 0, none⟩ (.int .i64 ((pre.length : Nat) + 1))) ∧ TwI U nbk (pre.length + 1) (Y.setCell ⟨nbk, 0, none⟩ (.int .i64 ((pre.length : Nat) + 1))) := fun Y ho =>
    ⟨((keepsFrom_below bX2).trans (keepsFrom_ovr hG2 ho)).trans ((KeepsOthers.setCell _ _ _).from _), ((Kz.of_below bX2).trans (kz_ovr ho)).trans (Kz.setCell _ hZ), by have := (hI2.ovr E.nu ho hown).set (pre.length + 1); simpa using this⟩
  refine over1 hG2 rfl hss (by omega) hI2.nb (hI2.box E.sb E.ns) nn nsb E.ns (hide ?_) (hide ?_)
  · intro a' Y ho hs
    obtain ⟨k1, k2, k3⟩ := KP Y ho
    refine ⟨k1, k2, rfl, ?_, ?_⟩
    · rw [List.length_append]; simpa using hs
    · rw [List.length_append]; exact k3
  · intro a' Y ho hs
    obtain ⟨k1, k2, k3⟩ := KP Y ho
    refine ⟨k1, k2, ?_⟩
    show TwI U nbk (List.length _) _ ∧ (1 ≤ stop → ((List.length _ : Nat) : Int) < stop)
    rw [List.length_append]
    exact ⟨k3, fun h => by have := hst h; simp; omega⟩
end Go.Proofs.Ythpcpminikmcbaa.og
