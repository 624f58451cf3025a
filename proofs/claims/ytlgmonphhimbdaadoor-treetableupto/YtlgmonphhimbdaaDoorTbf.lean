import Derived.Test.YtlgmonphhimbdaaDoorTbe
import Derived.RangeFuncBox
namespace Go.Proofs.YtlgmonphhimbdaaDoor.tab
open Go.ChangeShapes Go.WideShapes Go.ChangeAt Go.RowKit Go.Maps Go.Shelf
open wk
attribute [local go_sem] Oper.semAt_some
set_option linter.unusedVariables false
set_option linter.unusedSimpArgs false
/-- a piece of a function's code -/
def nav : Code → List Nat → Code
  | c, [] => c
  | .seq a _, 0 :: r => nav a r
  | .seq _ b, 1 :: r => nav b r
  | .cond _ a _, 0 :: r => nav a r
  | .cond _ _ b, 1 :: r => nav b r
  | .block _ a, 0 :: r => nav a r
  | .loop a, 0 :: r => nav a r
  | .rangeFunc _ _ a _, 0 :: r => nav a r
  | .rangeFunc _ _ _ b, 1 :: r => nav b r
  | c, _ => c
noncomputable def roLaw : Code := Tryd.f9.body.getD .skip
/-- the world U, but for the count in one block -/
structure RoI (U : World) (nb n : Nat) (X : World) : Prop where
  os : X.os = U.os
  tape : X.tape = U.tape
  output : X.output = U.output
  size : U.heap.size ≤ X.heap.size
  nbx : Boxed X nb 3 (.int .i64 (n : Nat))
  blk : ∀ b, b < U.heap.size → b ≠ nb → X.heap[b]? = U.heap[b]?
theorem RoI.keep {U X Y : World} {nb n : Nat} (h : RoI U nb n X) (hn : nb < U.heap.size) (ho : Y.os = X.os) (ht : Y.tape = X.tape) (hu : Y.output = X.output) (hs : X.heap.size ≤ Y.heap.size) (hb : ∀ b, b < U.heap.size → Y.heap[b]? = X.heap[b]?) : RoI U nb n Y :=
  ⟨ho.trans h.os, ht.trans h.tape, hu.trans h.output, Nat.le_trans h.size hs, (hb _ hn).trans h.nbx, fun b h1 h2 => (hb b h1).trans (h.blk b h1 h2)⟩
theorem RoI.below {U X Y : World} {nb n : Nat} (h : RoI U nb n X) (hn : nb < U.heap.size) (hb : Below X.heap.size X Y) : RoI U nb n Y :=
  h.keep hn hb.os hb.tape hb.output hb.size (fun b hl => hb.block b (Nat.lt_of_lt_of_le hl h.size))
theorem RoI.set {U X : World} {nb n : Nat} (h : RoI U nb n X) (m : Nat) : RoI U nb m (X.setCell ⟨nb, 0, none⟩ (.int .i64 (m : Nat))) :=
  ⟨h.os, h.tape, h.output, by simpa using h.size, h.nbx.set _, fun b h1 h2 => (Below.heap_setCell _ ⟨nb, 0, none⟩ _ _ h2).trans (h.blk b h1 h2)⟩
theorem RoI.bel {w U X : World} {nb n : Nat} (h : RoI U nb n X) (hb : Below w.heap.size w U) (hn : w.heap.size ≤ nb) : Below w.heap.size w X :=
  hb.trans ⟨h.os, h.tape, h.output, h.size, fun k hk => h.blk k (by have := hb.size; omega) (by omega)⟩
theorem RoI.box {U X : World} {nb n : Nat} (h : RoI U nb n X) {b : Nat} {t : TypeId} {v : Value} (hb : Boxed U b t v) (hn : b ≠ nb) : Boxed X b t v := (h.blk b hb.lt hn).trans hb
/-- what rangedOver has laid down ahead of its loops -/
structure RoE (w U : World) (B : Nat) (F : Nat → Prop) (b : Nat) (M : Option Nat) (rs : List Rw) (nx : Nat) (ps : List Pr) (a : Option Addr) (q c : Nat) (limit : Int) (lb mb nb ob ab : Nat) : Prop where
  bw : Below w.heap.size w U
  nw : w.heap.size ≤ nb
  nu : nb < U.heap.size
  l : Boxed U lb 29 (.slice a q c)
  m : Boxed U mb 3 (.int .i64 limit)
  o : Boxed U ob 23 (.pointer (some ⟨b, 0, none⟩))
  f : Boxed U ab 55 (.func (.func 28) #[] #[.pointer (some ⟨ob, 0, none⟩)])
  nl : lb ≠ nb
  nm : mb ≠ nb
  no : ob ≠ nb
  nf : ab ≠ nb
  tb : Tb w B F b M rs nx
  rel : Rel rs ps
  qe : q = ps.length
  qb : q ≤ 1048576
  rd : ps = [] ∨ ∃ g, a = some ⟨g, 0, none⟩ ∧ g < w.heap.size ∧ w.rangeAt g 0 (flat2 ps)
  tw : Tw w.heap.size w
theorem RoE.look {w U X : World} {B : Nat} {F : Nat → Prop} {b : Nat} {M : Option Nat} {rs : List Rw} {nx : Nat} {ps : List Pr} {a : Option Addr} {q c k lb mb nb ob ab : Nat} {limit : Int} (E : RoE w U B F b M rs nx ps a q c limit lb mb nb ob ab) (hX : Below w.heap.size w X) (hk : k < q) :
    ∃ g x y, a = some ⟨g, 0, none⟩ ∧ X.cell? ⟨g, k * 2, none⟩ = some (.int .i64 x) ∧ X.cell? ⟨g, k * 2 + 1, none⟩ = some (.int .i64 y) ∧ InR x ∧ ps[k]? = some (x, y) ∧ g < w.heap.size := by
  obtain ⟨p, hp⟩ : ∃ p, ps[k]? = some p := ⟨_, List.getElem?_eq_getElem (by rw [← E.qe]; exact hk)⟩
  rcases E.rd with h0 | ⟨g, rfl, hg, hr⟩
  · rw [h0] at hp; cases hp
  obtain ⟨z0, z1⟩ := rl_cells hr hp
  exact ⟨g, p.1, p.2, rfl, (hX.cell (p := ⟨g, k * 2, none⟩) hg).trans z0, (hX.cell (p := ⟨g, k * 2 + 1, none⟩) hg).trans z1, E.rel.rng p (List.mem_of_getElem? hp), hp, hg⟩
theorem nx_at {rs : List Rw} {ps : List Pr} (h : Rel rs ps) {pre : List (ByteArray × Int)} {x : ByteArray × Int} (hn : NxE (ents rs) pre x) : pre.length < ps.length ∧ ∃ p, ps[pre.length]? = some p ∧ x = (nm p.1, p.2) := by
  obtain ⟨k, hk, hp, hx⟩ := hn
  have e : pre.length = k := by rw [hp, List.length_take]; omega
  rw [h.eq, List.length_map] at hk
  rw [h.eq, List.getElem?_map] at hx
  subst e
  refine ⟨hk, ?_⟩
  cases hq : ps[pre.length]? with
  | none => rw [hq] at hx; cases hx
  | some p => rw [hq] at hx; exact ⟨p, rfl, (Option.some.inj hx).symm⟩
/-- the loops' own rows stay -/
theorem keepsFrom_below' {B : Nat} {X Y : World} (h : Below X.heap.size X Y) : KeepsFrom B X Y := ⟨h.size, fun k o _ hk _ => (h.block k (Array.getElem?_eq_some_iff.1 hk).1).trans hk⟩
set_option maxRecDepth 100000 in
set_option maxHeartbeats 1000000 in
theorem ro_inner {w U X : World} {B : Nat} {F : Nat → Prop} {b : Nat} {M : Option Nat} {rs : List Rw} {nx : Nat} {ps : List Pr} {a : Option Addr} {q c k l n lb mb nb ob ab : Nat} {limit : Int} {V : World} {ib B0 N : Nat} {pre : List (ByteArray × Int)} {x : ByteArray × Int} {t0 t1 t2 t3 t6 t9 t10 t13 t14 t15 t16 t17 t18 t19 t20 t21 t22 t23 t24 t25 t26 t27 t28 t29 t30 t31 t32 t33 t34 t35 t36 t37 t38 t39 t40 t41 t42 t43 t44 t45 t46 t47 t48 t49 t50 t51 t52 t53 t54 t55 t56 t57 t58 t59 t60 t61 t62 t63 t64 t65 t66 t67 t68 t69 t70 t71 t72 t73 t74 t75 t76 t77 t78 t79 t80 t81 t82 t83 t84 t85 t86 t87 : Value} (E : RoE w U B F b M rs nx ps a q c limit lb mb nb ob ab) (hV : RoI U nb k V) (hib : ib < V.heap.size) (hUi : U.heap.size ≤ ib) (hI : RoI V ib pre.length X) (hnx : NxE (ents rs) pre x) (hN : N + 1 < X.heap.size) (hNi : N + 1 ≠ ib) (hB0 : ib < B0) :
    (nav roLaw [1, 1, 1, 1, 0, 1, 0, 1, 0, 1, 0, 1, 0, 1, 0, 1, 0, 1]).wpIn (Fence.wide.inRound l) n Tryd.prog (postT B0 (KpE N x) (fun pre X => RoI V ib pre.length X) (fun _ _ _ => False) (pre ++ [x]) X) { tmps := #[t0, t1, t2, t3, .pointer (some ⟨lb, 0, none⟩), .pointer (some ⟨mb, 0, none⟩), t6, .pointer (some ⟨nb, 0, none⟩), .pointer (some ⟨ab, 0, none⟩), t9, t10, .pointer (some ⟨ib, 0, none⟩), .string x.1, t13, t14, t15, t16, t17, t18, t19, t20, t21, t22, t23, t24, t25, t26, t27, t28, t29, t30, t31, t32, t33, t34, t35, t36, t37, t38, t39, t40, t41, t42, t43, t44, t45, t46, t47, t48, t49, t50, t51, t52, t53, t54, t55, t56, t57, t58, t59, t60, t61, t62, t63, t64, t65, t66, t67, t68, t69, t70, t71, t72, t73, t74, t75, t76, t77, t78, t79, t80, t81, t82, t83, t84, t85, t86, t87], defers := [] } X := by
  obtain ⟨hlt, p, hp, rfl⟩ := nx_at E.rel hnx
  obtain ⟨m, hm⟩ : ∃ m, m = pre.length := ⟨_, rfl⟩
  rw [← hm] at hlt hp hI
  have bVX : Below w.heap.size w X := (hI.bel (w := w) (hV.bel E.bw E.nw) (by have := E.bw.size; omega))
  have hlt' : m < q := by rw [E.qe]; exact hlt
  have hqb := E.qb
  obtain ⟨g, px, py, rfl, z0, z1, hin, hp', hg⟩ := E.look bVX hlt'
  obtain rfl : p = (px, py) := Option.some.inj (hp.symm.trans hp')
  have cn := hI.nbx.cell
  have fn := hI.nbx.frozen
  have lU := E.l.lt
  have cl : X.cell? ⟨lb, 0, none⟩ = some (.slice (some ⟨g, 0, none⟩) q c) := Boxed.cell (hI.box (hV.box E.l E.nl) (by omega))
  have NM := hide (name_ok px hin X (E.tw X bVX))
  have mi : (m : Int) < (q : Int) := by omega
  have HI := hide hI
  have HM := hide hm
  have sV := hV.size
  clear hI hV E hp hp' hnx bVX hm hin
  obtain ⟨S, hS⟩ : ∃ S, S = nm px := ⟨_, rfl⟩
  simp only [← hS]
  rw [← hS] at NM
  clear hS
  simp only [roLaw, nav, Tryd.f9, Option.getD_some]
  gi_wp2_with fail
  refine ⟨trivial, fun h => by simp [Fence.wide] at h, (CallsIn.inRound l (callsIn_wide.2 (unhide NM))).mono ?_⟩
  rintro e X2 ⟨rfl, b2⟩
  have hI2 := (unhide HI).below hib b2
  have cn2 := hI2.nbx.cell
  have fn2 := hI2.nbx.frozen
  have HI2 := hide hI2
  have B2 := hide b2
  clear hI2 b2 NM HI
  gi_wp2
  have b2 := unhide B2
  have s2 := b2.size
  have e1 : ((m : Int) + 1) = ((m + 1 : Nat) : Int) := by omega
  rw [e1]
  refine ⟨(keepsFrom_below' b2).trans ((KeepsOthers.setCell _ _ _).from _), ⟨by simpa using s2, (Below.heap_setCell _ ⟨ib, 0, none⟩ _ _ hNi).trans (b2.block _ hN)⟩, ?_⟩
  show RoI V ib (List.length _) _
  rw [List.length_append, ← unhide HM]
  exact (unhide HI2).set (m + 1)
end Go.Proofs.YtlgmonphhimbdaaDoor.tab
