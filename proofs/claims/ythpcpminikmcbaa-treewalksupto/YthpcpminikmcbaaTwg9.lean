import Derived.Test.YthpcpminikmcbaaTwg8
import Derived.Test.YthpcpminikmcbaaTwg1
import Derived.ArgAppend
import Derived.Deep.AppendLies
import Derived.Test.YthpcpminikmcbaaTwg7
import Derived.RangeFuncNested
import Derived.RangeFuncBound
import Derived.RangeFuncCalls
import Derived.RangeFuncLeaves
import Derived.Shelf.Abstract
import Derived.Shelf.RegionOpen
import Derived.OwnWalkIn
import Derived.TacticsInMore
import Derived.LoopNIn
import Derived.LoopIn
import Derived.Stop.RegionWithIn
import Derived.Test.YthpcpminikmcbaaRows
import Derived.WalkKit
import Derived.ProofKit
import Derived.OpenShut
import Derived.ShutString
import Derived.Below
namespace Go.Proofs.Ythpcpminikmcbaa.og
open Go.ChangeShapes Go.WideShapes Go.ChangeAt Go.RowKit
open vl hiding cB cFl cS cF cI cK cIt
open stp (St Pth St3)
set_option linter.unusedVariables false
set_option linter.unusedSimpArgs false
mutual
/-- all parts of a value with their paths, in order -/
def pts : Vl → List St → List (List St × Vl)
  | .mk kd b n f tx ty its fls, p => (p, .mk kd b n f tx ty its fls) :: (if kd = 5 then ptsI its 0 p else if kd = 6 then ptsF fls p else [])
def ptsI : Vls → Nat → List St → List (List St × Vl)
  | .nil, _, _ => []
  | .cons v r, i, p => pts v (p ++ [⟨⟨#[]⟩, (i : Int), true⟩]) ++ ptsI r (i + 1) p
def ptsF : Fls → List St → List (List St × Vl)
  | .nil, _ => []
  | .cons nm v r, p => pts v (p ++ [⟨nm, 0, false⟩]) ++ ptsF r p
end
theorem ptsI_flat : ∀ (l : Vls) (i : Nat) (p : List St), ptsI l i p = ((l.list.zipIdx i).map (fun q => ((⟨⟨#[]⟩, (q.2 : Int), true⟩ : St), q.1))).flatMap (fun q => pts q.2 (p ++ [q.1]))
  | .nil, i, p => by simp [ptsI, Vls.list]
  | .cons v r, i, p => by rw [ptsI, ptsI_flat r]; simp [Vls.list, List.zipIdx_cons]
theorem ptsF_flat : ∀ (l : Fls) (p : List St), ptsF l p = (l.list.map (fun q => ((⟨q.1, 0, false⟩ : St), q.2))).flatMap (fun q => pts q.2 (p ++ [q.1]))
  | .nil, p => by simp [ptsF, Fls.list]
  | .cons nm v r, p => by rw [ptsF, ptsF_flat r]; simp [Fls.list]
theorem pts_kids (v : Vl) (p : List St) : pts v p = (p, v) :: (kids v).flatMap (fun q => pts q.2 (p ++ [q.1])) := by
  obtain ⟨kd, b, n, f, tx, ty, its, fls⟩ := v
  rw [pts, ptsI_flat, ptsF_flat]
  unfold kids
  simp only
  split
  · rfl
  · split
    · rfl
    · rfl
mutual
theorem pts_len : ∀ (v : Vl) (p : List St), (pts v p).length = cnt v
  | .mk kd b n f tx ty its fls, p => by
    rw [pts, cnt, List.length_cons]
    split
    · rw [ptsI_len its 0 p]; omega
    · split
      · rw [ptsF_len fls p]; omega
      · simp
theorem ptsI_len : ∀ (l : Vls) (i : Nat) (p : List St), (ptsI l i p).length = cntI l
  | .nil, i, p => by simp [ptsI, cntI]
  | .cons v r, i, p => by rw [ptsI, List.length_append, pts_len v, ptsI_len r, cntI]
theorem ptsF_len : ∀ (l : Fls) (p : List St), (ptsF l p).length = cntF l
  | .nil, p => by simp [ptsF, cntF]
  | .cons nm v r, p => by rw [ptsF, List.length_append, pts_len v, ptsF_len r, cntF]
end
/-- a part as pergolaref03 keeps it: its path lies in a block of its own, its value is read in the older world V -/
def OwP (V : World) (w : World) (q : List St × Vl) (cs : List Value) (F : List Nat) : Prop :=
  ∃ (ap : Option Addr) (n c : Nat) (us : List Value), cs = .slice ap n c :: us ∧ VlC V q.2 us ∧ n = q.1.length ∧ ((q.1 = [] ∧ F = []) ∨ ∃ p, ap = some ⟨p, 0, none⟩ ∧ F = [p] ∧ ∀ (j : Nat) (s : St), q.1[j]? = some s → w.rangeAt p (j * 3) (stC s))
theorem agP (V : World) : ∀ (w w' : World) (q : List St × Vl) (cs : List Value) (F : List Nat), Agree F w w' → OwP V w q cs F → OwP V w' q cs F := by
  rintro w w' q cs F ha ⟨ap, n, c, us, h1, h2, h3, h4⟩
  refine ⟨ap, n, c, us, h1, h2, h3, ?_⟩
  rcases h4 with h4 | ⟨p, h5, rfl, h6⟩
  · exact .inl h4
  · exact .inr ⟨p, h5, rfl, fun j s hs i u hu => (ha p (List.mem_singleton.2 rfl) _).trans (h6 j s hs i u hu)⟩
/-- an element of a new list -/
theorem GrV.get {E : Type} {R : E → List Value → Prop} {t : TypeId} {size B : Nat} {sl : Value} {w : World} {l : List E} (h : GrV R t size B l sl w) (hR : ∀ e cs, R e cs → cs.length = size) : ∀ {k : Nat} {e : E}, l[k]? = some e → ∃ g cap cs, sl = .slice (some ⟨g, 0, none⟩) l.length cap ∧ R e cs ∧ w.rangeAt g (k * size) cs := by
  intro k e hk
  obtain ⟨xss, h1, h2⟩ := h
  have hc := fun (g : Nat) (hg : sl.ownBlock = some g) => h1.cells hg
  have key : ∀ {l : List E} {xss : List (List Value)} {k : Nat}, P2 R l xss → l[k]? = some e → ∃ cs, R e cs ∧ ∀ j u, cs[j]? = some u → xss.flatten[k * size + j]? = some u := by
    intro l
    induction l with
    | nil => intro xss k _ hk; simp at hk
    | cons a r ih =>
      intro xss k hp hk
      match xss, hp with
      | x :: xs, hp =>
        have hx := hR _ _ hp.1
        cases k with
        | zero =>
          obtain rfl : a = e := by simpa using hk
          refine ⟨x, hp.1, fun j u hu => ?_⟩
          rw [List.flatten_cons, Nat.zero_mul, Nat.zero_add, List.getElem?_append_left (List.getElem?_eq_some_iff.1 hu).1]
          exact hu
        | succ k =>
          obtain ⟨cs, c1, c2⟩ := ih hp.2 (by simpa using hk)
          refine ⟨cs, c1, fun j u hu => ?_⟩
          rw [List.flatten_cons, List.getElem?_append_right (by rw [hx, Nat.succ_mul]; omega), hx, show (k + 1) * size + j - size = k * size + j by rw [Nat.succ_mul]; omega]
          exact c2 j u hu
  obtain ⟨cs, c1, c2⟩ := key h2 hk
  rcases h1.2 with ⟨rfl, h0⟩ | ⟨g, cap, cur, rfl, hg, hh, hc1, hc2, r⟩
  · have := (List.getElem?_eq_some_iff.1 hk).1
    omega
  · exact ⟨g, cap, cs, rfl, c1, fun j u hu => by have := hc g rfl _ u (c2 j u hu); rw [Addr.add_mid, Nat.zero_add] at this; exact this⟩
/-- the two lists stay where nothing of theirs is touched -/
theorem CgS.keep {V W w w' : World} {l4 : List St} {l5 : List Vl} {s4 s5 : Value} (h : CgS V W l4 l5 s4 s5 w) (hb : Below W.heap.size w w') (h4 : ∀ b, s4.ownBlock = some b → w'.heap[b]? = w.heap[b]?) (h5 : ∀ b, s5.ownBlock = some b → w'.heap[b]? = w.heap[b]?) : CgS V W l4 l5 s4 s5 w' := by
  have kp : ∀ {t : TypeId} {size : Nat} {sl : Value} {n : Nat} {xs : List Value}, (∀ b, sl.ownBlock = some b → w'.heap[b]? = w.heap[b]?) → w.ownsRow W.heap.size t size sl n xs → w'.ownsRow W.heap.size t size sl n xs := fun {t size sl n xs} hk h => ⟨h.1, h.2.imp id (fun ⟨g, cap, cur, e, hg, hh, r⟩ => ⟨g, cap, cur, e, hg, (hk g (by rw [e]; rfl)).trans hh, r⟩)⟩
  obtain ⟨⟨x4, a4, b4⟩, ⟨x5, a5, b5⟩, ne, bel⟩ := h
  exact ⟨⟨x4, kp h4 a4, b4⟩, ⟨x5, kp h5 a5, b5⟩, ne, bel.trans hb⟩
theorem wpO_growA {E : Type} {Ow : World → E → List Value → List Nat → Prop} (ha : ∀ w w' e cs F, Agree F w w' → Ow w e cs F → Ow w' e cs F) {P : Program} {t e : TypeId} {size bytes : Nat} {i : TypeInfo} {z : Value} {w : World} {o : Oper} {a : Act} {K : Act → World → Prop} {Q : Exit → Act → World → Prop} (s x : Operand)
    (ho : o.op = .call { callee := .builtin .append, args := #[s, x], argTypes := #[t, t] }) (ht : P.underlying t = some (.slice e)) (hi : P.info? e = some i) (hz : i.zero = some z)
    (hsize : i.size = size) (hby : i.bytes = bytes) (hzs : z.cells.size = size) (hsz : 0 < size)
    (B : Nat) (l : List E) (sl : Value) (G : List Nat) (hs : a.eval s = sl) (hg : Grow Ow e size w B l sl G) (v : E) (ds : List Value) (G' : List Nat) (hv : Ow w v ds G') (hl : ds.length = size) (h1 : ∀ u ∈ ds, u.oneCell' = true)
    (hn' : G'.Nodup) (hr' : ∀ b ∈ G', B ≤ b ∧ b < w.heap.size ∧ b ∉ G ∧ sl.ownBlock ≠ some b) (hf' : Fz w G') (N : Nat) (hN : N = w.heap.size) (hx : a.eval x = .slice (some ⟨N, 0, none⟩) 1 1) (hbytes : (l.length + 1) * bytes ≤ 140737488355328) (h63 : l.length + 1 ≤ maxLen) (hB : B ≤ w.heap.size)
    (h : ∀ sl' w', Grow Ow e size w' B (l ++ [v]) sl' (G ++ G') → Below B w w' → (∀ b, b < w.heap.size → sl.ownBlock ≠ some b → w'.heap[b]? = w.heap[b]?) → (∀ k, sl'.ownBlock = some k → sl.ownBlock = some k ∨ w.heap.size ≤ k) → K (a.put o.dst sl') w') : o.wp P a (w.alloc (.cells ds.toArray e)) K Q := by
  subst hN
  obtain ⟨xss, hrow, hol⟩ := hg.row
  refine wp_append_lies _ s x t ho B e i z size bytes ht hi hz hsize hby hzs hsz sl l.length xss.flatten hs (World.ownsRow.alloc hrow _) ⟨w.heap.size, 0, none⟩ 1 1 ds hx (by rw [hl]; omega) (fun j u hu => by
    rw [Addr.add_mid, Nat.zero_add, World.cell?_alloc_at _ _ _ _ rfl]; simpa using hu) h1 (by omega) h63 hbytes (by simp; omega) (w.heap.size + 1) (by simp) ?_
  intro g cap w' hrow' hgr hat hlt
  have hold : ∀ b, b < w.heap.size → sl.ownBlock ≠ some b → w'.heap[b]? = w.heap[b]? := fun b hb hne => by
    rw [hgr.block b (by simp; omega) (fun e => hne e.symm)]
    exact Below.heap_alloc w _ b hb
  have hsz' : w.heap.size ≤ w'.heap.size := by have := hgr.size; simp at this; omega
  refine h _ w' ⟨?_, ?_, ?_, ?_, xss ++ [ds], ?_, ?_⟩ (((Below.refl _ _).alloc hB _).grown hgr (by simp; omega) (fun k hk => (hrow.lt k hk).1)) hold (fun k hk => by
    have hk : g = k := Option.some.inj hk
    subst hk
    rcases hat with hat | hat
    · exact .inl hat
    · exact .inr (by omega))
  · rw [List.nodup_append]
    exact ⟨hg.nodup, hn', fun x hx y hy e => (hr' y hy).2.2.1 (e ▸ hx)⟩
  · intro b hb
    rcases List.mem_append.1 hb with hb | hb
    · exact ⟨(hg.rng b hb).1, Nat.lt_of_lt_of_le (hg.rng b hb).2 hsz'⟩
    · exact ⟨(hr' b hb).1, Nat.lt_of_lt_of_le (hr' b hb).2.1 hsz'⟩
  · intro b hb e
    have hgb : g = b := Option.some.inj e
    subst hgb
    have hlt' : g < w.heap.size := by
      rcases List.mem_append.1 hb with hb | hb
      · exact (hg.rng g hb).2
      · exact (hr' g hb).2.1
    rcases hat with hat | hat
    · rcases List.mem_append.1 hb with hb | hb
      · exact hg.own g hb hat
      · exact (hr' g hb).2.2.2 hat
    · omega
  · intro b hb j
    rcases List.mem_append.1 hb with hb | hb
    · exact (frozen_blk (hold b (hg.rng b hb).2 (hg.own b hb)) j).trans (hg.fz b hb j)
    · exact (frozen_blk (hold b (hr' b hb).2.1 (hr' b hb).2.2.2) j).trans (hf' b hb j)
  · simpa using hrow'
  · refine OwL.agree ha (fun b hb j => ?_) (OwL.snoc hv hol)
    rcases List.mem_append.1 hb with hb | hb
    · exact cell_blk (hold b (hg.rng b hb).2 (hg.own b hb)) j
    · exact cell_blk (hold b (hr' b hb).2.1 (hr' b hb).2.2.2) j
end Go.Proofs.Ythpcpminikmcbaa.og
namespace Go.Proofs.Ythpcpminikmcbaa.og
open Go.ChangeShapes Go.WideShapes Go.ChangeAt Go.RowKit Go.Shelf
open vl hiding cB cFl cS cF cI cK cIt
open stp (St Pth St3)
open wk
set_option linter.unusedVariables false
set_option linter.unusedSimpArgs false
/-- what a walk may change between two rounds: what lies from B on, and the block G from cell m on -/
structure Ch (B : Nat) (G : Option Nat) (m : Nat) (A A' : World) : Prop where
  os : A'.os = A.os
  tape : A'.tape = A.tape
  output : A'.output = A.output
  size : A.heap.size ≤ A'.heap.size
  block : ∀ b, b < B → some b ≠ G → A'.heap[b]? = A.heap[b]?
  own : ∀ (g : Nat) (cur : Array Value) (t : TypeId), G = some g → A.heap[g]? = some (.cells cur t (0, 0)) → ∃ cur' : Array Value, A'.heap[g]? = some (.cells cur' t (0, 0)) ∧ cur'.size = cur.size ∧ cur'.toList.take m = cur.toList.take m
theorem Ch.refl (B : Nat) (G : Option Nat) (m : Nat) (A : World) : Ch B G m A A := ⟨rfl, rfl, rfl, Nat.le_refl _, fun _ _ _ => rfl, fun g cur t _ h => ⟨cur, h, rfl, rfl⟩⟩
theorem Ch.trans {B : Nat} {G : Option Nat} {m : Nat} {X Y Z : World} (h : Ch B G m X Y) (k : Ch B G m Y Z) : Ch B G m X Z :=
  ⟨k.os.trans h.os, k.tape.trans h.tape, k.output.trans h.output, Nat.le_trans h.size k.size, fun b hb hn => (k.block b hb hn).trans (h.block b hb hn), fun g cur t hg hc => by
    obtain ⟨c1, h1, h2, h3⟩ := h.own g cur t hg hc
    obtain ⟨c2, k1, k2, k3⟩ := k.own g c1 t hg h1
    exact ⟨c2, k1, k2.trans h2, k3.trans h3⟩⟩
theorem Ch.of_below {B : Nat} {G : Option Nat} {m : Nat} {A A' : World} (hG : ∀ g, G = some g → g < B) (h : Below B A A') : Ch B G m A A' :=
  ⟨h.os, h.tape, h.output, h.size, fun b hb _ => h.block b hb, fun g cur t hg hc => ⟨cur, (h.block g (hG g hg)).trans hc, rfl, rfl⟩⟩
theorem Ch.of_grown {B : Nat} {G : Option Nat} {m : Nat} {A A' : World} {row : Option Nat} (hG : ∀ g, G = some g → g < B) (h : A.grownBy A' row) (hB : B ≤ A.heap.size) (hr : ∀ r, row = some r → B ≤ r) : Ch B G m A A' :=
  Ch.of_below hG ⟨h.os, h.tape, h.output, h.size, fun k hk => h.block k (by omega) (fun e => by have := hr k e.symm; omega)⟩
theorem Ch.below {B : Nat} {G : Option Nat} {m : Nat} {A A' : World} (h : Ch B G m A A') {b0 : Nat} (hb : b0 ≤ B) (hG : ∀ g, G = some g → b0 ≤ g) : Below b0 A A' :=
  ⟨h.os, h.tape, h.output, h.size, fun k hk => h.block k (by omega) (fun e => by have := hG k e.symm; omega)⟩
theorem Ch.boxed {B : Nat} {G : Option Nat} {m : Nat} {A A' : World} (h : Ch B G m A A') {b : Nat} {t : TypeId} {v : Value} (hb : b < B) (hn : some b ≠ G) (k : Boxed A b t v) : Boxed A' b t v := (h.block b hb hn).trans k
theorem Ch.grs {B Bp : Nat} {A A' : World} {ss : List St} {sl : Value} (h : Ch B sl.ownBlock (ss.length * 3) A A') (k : GrS Bp ss sl A) : GrS Bp ss sl A' := by
  obtain ⟨xss, ⟨h0, h1⟩, h2⟩ := k
  refine ⟨xss, ⟨h0, ?_⟩, h2⟩
  rcases h1 with h1 | ⟨g, cap, cur, rfl, hg, hh, a1, a2, a3, a4⟩
  · exact .inl h1
  · obtain ⟨cur', c1, c2, c3⟩ := h.own g cur _ rfl hh
    exact .inr ⟨g, cap, cur', rfl, hg, c1, a1, a2, c2.trans a3, c3.trans a4⟩
theorem Ch.grs_far {B Bp : Nat} {G : Option Nat} {m : Nat} {A A' : World} {ss : List St} {sl : Value} (h : Ch B G m A A') (hb : ∀ b, sl.ownBlock = some b → b < B ∧ some b ≠ G) (k : GrS Bp ss sl A) : GrS Bp ss sl A' := by
  obtain ⟨xss, ⟨h0, h1⟩, h2⟩ := k
  refine ⟨xss, ⟨h0, ?_⟩, h2⟩
  rcases h1 with h1 | ⟨g, cap, cur, rfl, hg, hh, r⟩
  · exact .inl h1
  · exact .inr ⟨g, cap, cur, rfl, hg, (h.block g (hb g rfl).1 (hb g rfl).2).trans hh, r⟩
theorem Ch.same {B B' : Nat} {G : Option Nat} {m m' : Nat} {A A' : World} (h : Ch B' G m' A A') (hB : B ≤ B') (hm : m ≤ m') : Ch B G m A A' :=
  ⟨h.os, h.tape, h.output, h.size, fun b hb hn => h.block b (by omega) hn, fun g cur t hg hc => by
    obtain ⟨c, h1, h2, h3⟩ := h.own g cur t hg hc
    refine ⟨c, h1, h2, ?_⟩
    have := congrArg (List.take m) h3
    rwa [List.take_take, List.take_take, Nat.min_eq_left hm] at this⟩
theorem Ch.outer {B B' : Nat} {G G' : Option Nat} {m m' : Nat} {A A' : World} (h : Ch B' G' m' A A') (hB : B ≤ B') (hG : ∀ g, G = some g → g < B) (hG' : ∀ g, G' = some g → B ≤ g) : Ch B G m A A' :=
  Ch.of_below hG (h.below hB hG')
/-- what a round must keep: the blocks of Z but for pb -/
structure Kz (Z : Nat → Prop) (pb : Option Nat) (A A' : World) : Prop where
  os : A'.os = A.os
  tape : A'.tape = A.tape
  output : A'.output = A.output
  size : A.heap.size ≤ A'.heap.size
  block : ∀ b, b < A.heap.size → Z b → some b ≠ pb → A'.heap[b]? = A.heap[b]?
theorem Kz.trans {Z : Nat → Prop} {pb : Option Nat} {X Y W : World} (h : Kz Z pb X Y) (k : Kz Z pb Y W) : Kz Z pb X W :=
  ⟨k.os.trans h.os, k.tape.trans h.tape, k.output.trans h.output, Nat.le_trans h.size k.size, fun b hb hz hn => (k.block b (Nat.lt_of_lt_of_le hb h.size) hz hn).trans (h.block b hb hz hn)⟩
theorem Kz.of_below {Z : Nat → Prop} {pb : Option Nat} {A A' : World} (h : Below A.heap.size A A') : Kz Z pb A A' := ⟨h.os, h.tape, h.output, h.size, fun b hb _ _ => h.block b hb⟩
theorem Kz.mono {Z Z' : Nat → Prop} {pb : Option Nat} {A A' : World} (h : Kz Z pb A A') (hz : ∀ b, Z' b → Z b) : Kz Z' pb A A' := ⟨h.os, h.tape, h.output, h.size, fun b hb z hn => h.block b hb (hz b z) hn⟩
theorem Kz.putObj {Z : Nat → Prop} {pb : Option Nat} {A : World} {l : Nat} (o : Obj) (hl : ¬ Z l) : Kz Z pb A (A.putObj l o) :=
  ⟨rfl, rfl, rfl, by simp, fun b _ hz _ => World.putObj_heap_other (fun e => hl (by first | (rw [← e]; exact hz) | (rw [e]; exact hz) | (subst e; exact hz)))⟩
theorem Kz.boxed {Z : Nat → Prop} {pb : Option Nat} {A A' : World} (h : Kz Z pb A A') {b : Nat} {t : TypeId} {v : Value} (hz : Z b) (hn : some b ≠ pb) (k : Boxed A b t v) : Boxed A' b t v := (h.block b k.lt hz hn).trans k
theorem Kz.range {Z : Nat → Prop} {pb : Option Nat} {A A' : World} (h : Kz Z pb A A') {b : Nat} {cs : List Value} (hb : b < A.heap.size) (hz : Z b) (hn : some b ≠ pb) (k : A.rangeAt b 0 cs) : A'.rangeAt b 0 cs := fun j u hu => (cell_blk (h.block b hb hz hn) _).trans (k j u hu)
theorem Kz.grs {Z : Nat → Prop} {pb : Option Nat} {A A' : World} (h : Kz Z pb A A') {Bp : Nat} {ss : List St} {sl : Value} (hz : ∀ g, sl.ownBlock = some g → Z g ∧ some g ≠ pb) (k : GrS Bp ss sl A) : GrS Bp ss sl A' := by
  have hlt := k.lt
  obtain ⟨xss, ⟨h0, h1⟩, h2⟩ := k
  refine ⟨xss, ⟨h0, ?_⟩, h2⟩
  rcases h1 with h1 | ⟨g, cap, cur, rfl, hg, hh, r⟩
  · exact .inl h1
  · exact .inr ⟨g, cap, cur, rfl, hg, (h.block g (hlt g rfl).2 (hz g rfl).1 (hz g rfl).2).trans hh, r⟩
theorem Kz.below {Z : Nat → Prop} {pb : Option Nat} {A A' : World} (h : Kz Z pb A A') {b0 : Nat} (hb : b0 ≤ A.heap.size) (hz : ∀ b, b < b0 → Z b ∧ some b ≠ pb) : Below b0 A A' :=
  ⟨h.os, h.tape, h.output, h.size, fun k hk => h.block k (by omega) (hz k hk).1 (hz k hk).2⟩
/-- an element of a walk: a path, and a value that is read in w0 -/
structure Wel (w0 : World) where
  ss : List St
  v : Vl
  cs : List Value
  hv : VlC w0 v cs
  a : Option Addr
  c : Nat
def Wel.pv {w0 : World} (x : Wel w0) : List St × Vl := (x.ss, x.v)
def Wel.sl {w0 : World} (x : Wel w0) : Value := .slice x.a x.ss.length x.c
def Wel.enc {w0 : World} (x : Wel w0) : Array Value := #[x.sl, .agg x.cs.toArray]
/-- the blocks that a round of a walk must keep -/
def Zw (w0 : World) (B bp bv : Nat) (G : Option Nat) (b : Nat) : Prop := b < w0.heap.size ∨ B ≤ b ∨ b = bp ∨ b = bv ∨ some b = G
def WalkAt (v : Vl) : Prop := ∀ (w0 : World) (cs : List Value), VlC w0 v cs → ∀ (n : Nat) (ss : List St) (sl : Value) (bp bv Bp : Nat) (W : World), Below w0.heap.size w0 W → w0.heap.size ≤ Bp → w0.heap.size ≤ bp → w0.heap.size ≤ bv → Boxed W bp 29 sl → W.rangeAt bv 0 cs → GrS Bp ss sl W → (∀ g, sl.ownBlock = some g → g ≠ bp ∧ g ≠ bv) → (ss = [] → sl = .slice none 0 0) → ss.length + cnt v ≤ 1048576 → Bp ≤ W.heap.size →
  SeqT Fence.wide n Try.prog 56 #[.pointer (some ⟨bp, 0, none⟩), .pointer (some ⟨bv, 0, none⟩)] (Wel.enc (w0 := w0)) (fun x A => GrS W.heap.size x.ss x.sl A) (Ch W.heap.size sl.ownBlock (ss.length * 3)) (fun x A A' => Kz (Zw w0 W.heap.size bp bv sl.ownBlock) x.sl.ownBlock A A') (fun xs => xs.map Wel.pv = pts v ss) (fun pre => ∃ k, pre.map Wel.pv = (pts v ss).take k) (fun pre x => ∃ r, pre.map Wel.pv ++ x.pv :: r = pts v ss) W
/-- a yield may be called from any depth -/
theorem yield_any {n m l l' : Nat} {args : Array Value} {W : World} {R : Ending → World → Prop} (h : YieldAt Fence.wide n Try.prog l args W R) : YieldAt (Fence.wide.inRound l') m Try.prog l args W R := by
  obtain ⟨fn, tmps, assign, body, hy, hf, hr⟩ := h
  exact ⟨fn, tmps, assign, body, hy, hf, fun c cs _ => hr c cs (room_wide _)⟩
theorem yield_wide {n m l : Nat} {args : Array Value} {W : World} {R : Ending → World → Prop} (h : YieldAt Fence.wide n Try.prog l args W R) : YieldAt Fence.wide m Try.prog l args W R := by
  obtain ⟨fn, tmps, assign, body, hy, hf, hr⟩ := h
  exact ⟨fn, tmps, assign, body, hy, hf, fun c cs _ => hr c cs (room_wide _)⟩
theorem flat3 : ∀ (l : List St) (j : Nat) (u : Value), (l.map stC).flatten[j]? = some u → ∃ k x r, l[k]? = some x ∧ j = k * 3 + r ∧ (stC x)[r]? = some u
  | [], j, u, h => by simp at h
  | a :: l, j, u, h => by
    rw [List.map_cons, List.flatten_cons] at h
    by_cases hj : j < 3
    · rw [List.getElem?_append_left (show j < (stC a).length from hj)] at h
      exact ⟨0, a, j, rfl, by omega, h⟩
    · rw [List.getElem?_append_right (show (stC a).length ≤ j by show 3 ≤ j; omega)] at h
      obtain ⟨k, x, r, h1, h2, h3⟩ := flat3 l (j - 3) u h
      exact ⟨k + 1, x, r, by simpa using h1, by omega, h3⟩
theorem P2.stC_of : ∀ {l : List St} {xss : List (List Value)}, P2 (fun s cs => cs = stC s) l xss → xss = l.map stC
  | [], [], _ => rfl
  | a :: l, x :: xss, h => by rw [List.map_cons, ← P2.stC_of h.2, h.1]
  | [], _ :: _, h => h.elim
  | _ :: _, [], h => h.elim
theorem P2.stC_map : ∀ l : List St, P2 (fun s cs => cs = stC s) l (l.map stC)
  | [] => trivial
  | a :: l => ⟨rfl, P2.stC_map l⟩
theorem stC_one (l : List St) : ∀ u ∈ (l.map stC).flatten, u.oneCell' = true := by
  intro u hu
  rw [List.mem_flatten] at hu
  obtain ⟨cs, hcs, hu⟩ := hu
  obtain ⟨y, -, rfl⟩ := List.mem_map.1 hcs
  simp [stC] at hu
  rcases hu with rfl | rfl | rfl <;> rfl
theorem stC_len (l : List St) : (l.map stC).flatten.length = l.length * 3 := by
  induction l with
  | nil => rfl
  | cons a l ih => rw [List.map_cons, List.flatten_cons, List.length_append, ih, List.length_cons]; show 3 + _ = _; omega
/-- append([]api.Step(nil), path...) -/
theorem copy_run (A : World) (ty : TypeId) {Bp : Nat} {ss : List St} {sl : Value} (hG : GrS Bp ss sl A) (hnil : ss = [] → sl = .slice none 0 0) (hn : ss.length ≤ 1048576) :
    ∃ a c A', (Builtin.append_ #[29, 29] ty #[.slice none 0 0, sl]).run Try.prog A = .ok (.slice a ss.length c) A' ∧ GrS A.heap.size ss (.slice a ss.length c) A' ∧ Below A.heap.size A A' := by
  obtain ⟨i, z, hi, hz, hsz, hb, hc⟩ := infoSz
  by_cases h0 : ss = []
  · obtain rfl := hnil h0
    subst h0
    refine ⟨none, 0, A, ?_, GrV.nil, Below.refl _ _⟩
    exact run_append_owned_none (P := Try.prog) A A.heap.size 29 ty 34 i 3 Try.underlying29 hi _ 0 _ (World.ownsRow_nil A _ _ _)
  · obtain ⟨xss, hrow, h2⟩ := hG
    obtain rfl := P2.stC_of h2
    have hpos : 0 < ss.length := by cases ss with | nil => exact absurd rfl h0 | cons a l => simp
    have hcl := fun (g : Nat) (hg : sl.ownBlock = some g) => hrow.cells hg
    obtain ⟨g, cap, rfl, -, -⟩ := hrow.form hpos
    obtain ⟨g', cap', A', hr, ho, hgr, hat, hlt⟩ := run_append_lies (P := Try.prog) A 29 ty A.heap.size 34 i z 3 32 Try.underlying29 hi hz hsz hb hc (by omega) (.slice none 0 0) 0 [] (World.ownsRow_nil A _ _ _) ⟨g, 0, none⟩ ss.length cap (ss.map stC).flatten (stC_len ss) (fun j u hu => hcl g rfl j u hu) (stC_one ss) hpos (by unfold maxLen; omega) (by omega) (Nat.le_refl _) A.heap.size rfl
    rw [Nat.zero_add, List.nil_append] at ho
    rw [Nat.zero_add] at hr
    exact ⟨_, cap', A', hr, ⟨ss.map stC, ho, P2.stC_map ss⟩, (Below.refl _ _).grown hgr (Nat.le_refl _) (fun k hk => by simp [Value.ownBlock] at hk)⟩
/-- append(path, step) -/
theorem ext_run (A : World) (ty : TypeId) {Bp : Nat} {ss : List St} {sl : Value} (hG : GrS Bp ss sl A) (s : St) (hBp : Bp ≤ A.heap.size) (hn : ss.length ≤ 1048576) (N : Nat) (hN : N = A.heap.size) :
    ∃ g n cap A', (Builtin.append_ #[29, 29] ty #[sl, .slice (some ⟨N, 0, none⟩) 1 1]).run Try.prog (A.alloc (.cells (stC s).toArray 34)) = .ok (.slice (some ⟨g, 0, none⟩) n cap) A' ∧ GrS Bp (ss ++ [s]) (.slice (some ⟨g, 0, none⟩) n cap) A' ∧ Ch A.heap.size sl.ownBlock (ss.length * 3) A A' ∧ (sl.ownBlock = some g ∨ A.heap.size ≤ g) := by
  subst hN
  obtain ⟨i, z, hi, hz, hsz, hb, hc⟩ := infoSz
  have hlt := hG.lt
  obtain ⟨xss, hrow, h2⟩ := hG
  have hnews : ∀ (j : Nat) (u : Value), (stC s)[j]? = some u → (A.alloc (.cells (stC s).toArray 34)).cell? ((⟨A.heap.size, 0, none⟩ : Addr).add j) = some u := fun j u hu => by
    rw [Addr.add_mid, Nat.zero_add, World.cell?_alloc_at _ _ _ _ rfl]; simpa using hu
  have bA : Below A.heap.size A (A.alloc (.cells (stC s).toArray 34)) := (Below.refl _ _).alloc (Nat.le_refl _) _
  have hone : ∀ u ∈ stC s, u.oneCell' = true := by simp [stC, Value.oneCell']
  have hrowA := World.ownsRow.alloc hrow (.cells (stC s).toArray 34)
  rcases hrow.2 with ⟨rfl, h0⟩ | ⟨g, cap, cur, rfl, hg, hh, hc1, hc2, hc3, hc4⟩
  · obtain ⟨g', cap', A', hr, ho, hgr, hat, hlt'⟩ := run_append_lies (P := Try.prog) _ 29 ty Bp 34 i z 3 32 Try.underlying29 hi hz hsz hb hc (by omega) _ ss.length xss.flatten hrowA ⟨A.heap.size, 0, none⟩ 1 1 (stC s) rfl hnews hone (by omega) (by unfold maxLen; omega) (by omega) (by simp; omega) _ rfl
    refine ⟨g', _, cap', A', hr, ⟨xss ++ [stC s], by simpa using ho, P2.snoc (R := fun s cs => cs = stC s) rfl h2⟩, Ch.of_below (fun g e => by simp [Value.ownBlock] at e) (bA.grown hgr (by simp) (fun k hk => by simp [Value.ownBlock] at hk)), ?_⟩
    rcases hat with hat | hat
    · simp [Value.ownBlock] at hat
    · exact .inr (by simp at hat; omega)
  · have hgA : g < A.heap.size := (hlt g rfl).2
    by_cases room : ss.length + 1 ≤ cap
    · obtain ⟨A', hr, ho, hgr⟩ := run_append_fits (P := Try.prog) _ Bp 29 ty 34 i 3 Try.underlying29 hi hsz g ss.length cap xss.flatten hrowA ⟨A.heap.size, 0, none⟩ 1 1 (stC s) rfl hnews hone room
      refine ⟨g, _, cap, A', hr, ⟨xss ++ [stC s], by simpa using ho, P2.snoc (R := fun s cs => cs = stC s) rfl h2⟩, ⟨hgr.os, hgr.tape, hgr.output, ?_, ?_, ?_⟩, .inl rfl⟩
      · have := hgr.size; simp at this; omega
      · intro b hb' hn'
        rw [hgr.block b (by simp; omega) hn']
        exact bA.block b hb'
      · intro g' cur' t e hcur
        cases e
        rw [hh] at hcur
        cases hcur
        rcases ho.2 with ⟨e, -⟩ | ⟨g2, cap2, cur2, e, -, k1, -, -, k2, k3⟩
        · cases e
        · cases e
          refine ⟨cur2, k1, k2.trans hc3.symm, ?_⟩
          have := congrArg (List.take (ss.length * 3)) k3
          rw [List.take_take, Nat.min_eq_left (by omega), List.take_left' (by rw [← hrow.1])] at this
          rw [this, hc4]
    · obtain ⟨v', A', hr, ho, hgr⟩ := run_append_arg_grows (P := Try.prog) _ 29 ty 34 i z 3 32 Try.underlying29 hi hz hsz hb hc (by omega) ⟨g, 0, none⟩ ss.length cap xss.flatten hrow.1 (fun j u hu => hrowA.cells (g := g) rfl j u hu) ⟨A.heap.size, 0, none⟩ 1 1 (stC s) rfl hnews (by omega) (by unfold maxLen; omega) (by omega)
      obtain ⟨g', cap', rfl, hg1, -⟩ := ho.form (by omega)
      have hbel : Below A.heap.size A A' := bA.grown hgr (by simp) (fun k hk => by cases hk)
      refine ⟨g', _, cap', A', hr, ⟨xss ++ [stC s], ?_, P2.snoc (R := fun s cs => cs = stC s) rfl h2⟩, Ch.of_below (fun q e => by cases e; exact hgA) hbel, .inr (by simp at hg1; omega)⟩
      obtain ⟨o1, o2⟩ := ho
      refine ⟨by simpa using o1, o2.imp (fun h => ⟨h.1, by simpa using h.2⟩) (fun ⟨g2, cap2, cur2, e, hg2, r⟩ => ⟨g2, cap2, cur2, by simpa using e, by simp at hg2; omega, by simpa using r⟩)⟩
end Go.Proofs.Ythpcpminikmcbaa.og
namespace Go.Proofs.Ythpcpminikmcbaa.og
open Go.ChangeShapes Go.WideShapes Go.ChangeAt Go.RowKit Go.Shelf
open vl hiding cB cFl cS cF cI cK cIt
open stp (St Pth St3)
open wk
set_option linter.unusedVariables false
set_option linter.unusedSimpArgs false
/-- the walk's own state: yield's box at b0, the path's at bp -/
structure WkS (w0 : World) (b0 bp Bp l : Nat) (ss : List St) (sl : Value) (X : World) : Prop where
  yb : Boxed X b0 92 (.func (.yield l) #[] #[])
  pb : Boxed X bp 29 sl
  gr : GrS Bp ss sl X
  bel : Below w0.heap.size w0 X
section
variable {w0 : World} {b0 bp Bp l : Nat} {ss : List St} {sl : Value} {X Y : World}
theorem WkS.below (h : WkS w0 b0 bp Bp l ss sl X) (hb : Below X.heap.size X Y) : WkS w0 b0 bp Bp l ss sl Y :=
  ⟨(hb.block _ h.yb.lt).trans h.yb, (hb.block _ h.pb.lt).trans h.pb, Ch.grs_far (Ch.of_below (G := none) (m := 0) (fun g e => by cases e) hb) (fun q hq => ⟨(h.gr.lt q hq).2, by simp⟩) h.gr, h.bel.trans (hb.mono h.bel.size)⟩
theorem WkS.kz (h : WkS w0 b0 bp Bp l ss sl X) {B bv : Nat} {pb : Option Nat} (hk : Kz (Zw w0 B bp bv sl.ownBlock) pb X Y) (hB : B ≤ b0) (hp : ∀ g, pb = some g → g ≠ b0 ∧ g ≠ bp ∧ w0.heap.size ≤ g ∧ sl.ownBlock ≠ some g) : WkS w0 b0 bp Bp l ss sl Y := by
  refine ⟨hk.boxed (.inr (.inl hB)) (fun e => (hp _ e.symm).1 rfl) h.yb, hk.boxed (.inr (.inr (.inl rfl))) (fun e => (hp _ e.symm).2.1 rfl) h.pb, hk.grs (fun g hg => ⟨.inr (.inr (.inr (.inr hg.symm))), fun e => (hp _ e.symm).2.2.2 hg⟩) h.gr, h.bel.trans (hk.below h.bel.size (fun b hb => ⟨.inl hb, fun e => ?_⟩))⟩
  have := (hp _ e.symm).2.2.1
  omega
theorem WkS.grown (h : WkS w0 b0 bp Bp l ss sl X) {row : Option Nat} (hg : X.grownBy Y row) (hr : ∀ r, row = some r → w0.heap.size ≤ r ∧ ∃ o : Obj, X.heap[r]? = some o ∧ o.isCells = false) : WkS w0 b0 bp Bp l ss sl Y := by
  have nb : ∀ {b : Nat} {t : TypeId} {v : Value}, Boxed X b t v → some b ≠ row := fun {b t v} hb e => by
    obtain ⟨-, o, ho, hc⟩ := hr b e.symm
    rw [show X.heap[b]? = _ from hb] at ho
    cases ho
    cases hc
  refine ⟨h.yb.kept hg (nb h.yb), h.pb.kept hg (nb h.pb), ?_, h.bel.trans ⟨hg.os, hg.tape, hg.output, hg.size, fun k hk => hg.block k (Nat.lt_of_lt_of_le hk h.bel.size) (fun e => by have := (hr k e.symm).1; omega)⟩⟩
  refine h.gr.kept hg ?_
  obtain ⟨xss, h1, -⟩ := h.gr
  rcases h1.2 with ⟨rfl, -⟩ | ⟨g, cap, cur, rfl, -, hh, -⟩
  · exact .inl rfl
  · refine .inr (fun e => ?_)
    obtain ⟨-, o, ho, hc⟩ := hr g e.symm
    rw [hh] at ho
    cases ho
    cases hc
/-- what the walk beneath changes -/
theorem WkS.ch (h : WkS w0 b0 bp Bp l ss sl X) {B' m' : Nat} {G' : Option Nat} (hc : Ch B' G' m' X Y) (hB : b0 < B' ∧ bp < B' ∧ (∀ g, sl.ownBlock = some g → g < B') ∧ w0.heap.size ≤ B') (hG : ∀ g, G' = some g → g ≠ b0 ∧ g ≠ bp ∧ w0.heap.size ≤ g) (hm : ss.length * 3 ≤ m') : WkS w0 b0 bp Bp l ss sl Y := by
  refine ⟨hc.boxed hB.1 (fun e => (hG _ e.symm).1 rfl) h.yb, hc.boxed hB.2.1 (fun e => (hG _ e.symm).2.1 rfl) h.pb, ?_, h.bel.trans (hc.below hB.2.2.2 (fun g e => (hG g e).2.2))⟩
  by_cases e : G' = sl.ownBlock
  · subst e
    exact Ch.grs (hc.same (Nat.le_refl _) hm) h.gr
  · refine Ch.grs_far hc (fun q hq => ⟨hB.2.2.1 q hq, fun e' => e (by rw [← e', hq])⟩) h.gr
end
theorem pts_take1 (v : Vl) (ss : List St) : (pts v ss).take 1 = [(ss, v)] := by rw [pts_kids]; rfl
theorem flat_take {α β : Type} (F : α → List β) (p : List α) (q : α) (r : List α) (j : Nat) : ∃ k, p.flatMap F ++ (F q).take j = ((p ++ [q]) ++ r |>.flatMap F).take k := by
  refine ⟨(p.flatMap F).length + min j (F q).length, ?_⟩
  rw [List.flatMap_append, List.flatMap_append, List.append_assoc, List.take_append, Nat.add_sub_cancel_left, List.take_of_length_le (Nat.le_add_right _ _)]
  congr 1
  rw [List.flatMap_cons, List.flatMap_nil, List.append_nil, List.take_append, Nat.sub_eq_zero_of_le (Nat.min_le_right _ _), List.take_zero, List.append_nil]
  by_cases h : j ≤ (F q).length
  · rw [Nat.min_eq_left h]
  · rw [Nat.min_eq_right (by omega), List.take_of_length_le (by omega), List.take_of_length_le (Nat.le_refl _)]
theorem pts_stop {v : Vl} {ss : List St} {p : List (St × Vl)} {q : St × Vl} {k : Nat} (h : p ++ [q] = (kids v).take k) (j : Nat) : ∃ i, (ss, v) :: (p.flatMap (fun q => pts q.2 (ss ++ [q.1])) ++ (pts q.2 (ss ++ [q.1])).take j) = (pts v ss).take i := by
  obtain ⟨i, hi⟩ := flat_take (fun q : St × Vl => pts q.2 (ss ++ [q.1])) p q ((kids v).drop k) j
  refine ⟨i + 1, ?_⟩
  rw [pts_kids v ss, List.take_succ_cons, hi, h, List.take_append_drop]
theorem grs_grown {Bp : Nat} {ss : List St} {sl : Value} {X Y : World} (h : GrS Bp ss sl X) {row : Option Nat} (hg : X.grownBy Y row) (hr : ∀ r, row = some r → ∃ o : Obj, X.heap[r]? = some o ∧ o.isCells = false) : GrS Bp ss sl Y := by
  refine h.kept hg ?_
  obtain ⟨xss, h1, -⟩ := h
  rcases h1.2 with ⟨rfl, -⟩ | ⟨g, cap, cur, rfl, -, hh, -⟩
  · exact .inl rfl
  · refine .inr (fun e => ?_)
    obtain ⟨o, ho, hc⟩ := hr g e.symm
    rw [hh] at ho
    cases ho
    cases hc
theorem grs_cells {Bp : Nat} {ss : List St} {sl : Value} {X : World} (h : GrS Bp ss sl X) {g : Nat} (hg : sl.ownBlock = some g) {o : Obj} (ho : X.heap[g]? = some o) : o.isCells = true := by
  obtain ⟨xss, h1, -⟩ := h
  rcases h1.2 with ⟨rfl, -⟩ | ⟨g', cap, cur, rfl, -, hh, -⟩
  · cases hg
  · cases hg
    rw [hh] at ho
    cases ho
    rfl
theorem pts_next {v u : Vl} {ss : List St} {s : St} {kk : Nat} (hn : (kids v)[kk]? = some (s, u)) {p : List (St × Vl)} (hp : p = (kids v).take kk) {Y Q : List (List St × Vl)} (hY : Y = p.flatMap (fun q => pts q.2 (ss ++ [q.1]))) {x : List St × Vl} {r : List (List St × Vl)} (hQ : Q ++ x :: r = pts u (ss ++ [s])) : ∃ r', ((ss, v) :: (Y ++ Q)) ++ x :: r' = pts v ss := by
  refine ⟨r ++ ((kids v).drop (kk + 1)).flatMap (fun q => pts q.2 (ss ++ [q.1])), ?_⟩
  have e : kids v = (kids v).take kk ++ (s, u) :: (kids v).drop (kk + 1) := by
    conv => lhs; rw [← List.take_append_drop kk (kids v)]
    congr 1
    obtain ⟨hk, e⟩ := List.getElem?_eq_some_iff.1 hn
    rw [List.drop_eq_getElem_cons hk, e]
  rw [pts_kids v ss]
  conv => rhs; rw [e]
  rw [List.flatMap_append, List.flatMap_cons, ← hp, ← hY, ← hQ]
  simp
theorem pts_done {v u : Vl} {ss : List St} {s : St} {kk : Nat} (hn : (kids v)[kk]? = some (s, u)) {p : List (St × Vl)} (hp : p = (kids v).take kk) {Y Q : List (List St × Vl)} (hY : Y = p.flatMap (fun q => pts q.2 (ss ++ [q.1]))) (hQ : Q = pts u (ss ++ [s])) : Y ++ Q = (p ++ [(s, u)]).flatMap (fun q => pts q.2 (ss ++ [q.1])) := by
  rw [List.flatMap_append, ← hY, hQ]
  simp
theorem pts_part {v u : Vl} {ss : List St} {s : St} {kk : Nat} (hn : (kids v)[kk]? = some (s, u)) {p : List (St × Vl)} (hp : p = (kids v).take kk) {Y Q : List (List St × Vl)} (hY : Y = p.flatMap (fun q => pts q.2 (ss ++ [q.1]))) {j : Nat} (hQ : Q = (pts u (ss ++ [s])).take j) : ∃ i, (ss, v) :: (Y ++ Q) = (pts v ss).take i := by
  have h : p ++ [(s, u)] = (kids v).take (kk + 1) := by rw [List.take_add_one, hn, hp]; rfl
  obtain ⟨i, hi⟩ := pts_stop (ss := ss) h j
  exact ⟨i, by rw [hY, hQ]; exact hi⟩
end Go.Proofs.Ythpcpminikmcbaa.og
namespace Go.Proofs.Ythpcpminikmcbaa.og
open Go.ChangeShapes Go.WideShapes Go.ChangeAt Go.RowKit Go.Shelf
open vl hiding cB cFl cS cF cI cK cIt
open stp (c3 c3_lt c3_gt c3_eq cB cB_tri St)
attribute [local go_sem] Oper.semAt_some
set_option linter.unusedVariables false
set_option linter.unusedSimpArgs false
open wk
set_option maxRecDepth 100000 in
set_option maxHeartbeats 4000000 in
theorem kids1_nx (F : Fence) (n : Nat) (hF : F.fn 71) (hro : F.round = none) (hn : 1 ≤ n) (l Bv : Nat) (w0 : World) (v : Vl) (cs : List Value) (hv : VlC w0 v cs) (hsm : Small v) (ks : List (St × Vl)) (hks : kids v = ks) (J Jx : List (Kid w0 ks) → World → Prop)
    (B : Nat) (hJ : AbidesFrom B J) (hY : ∀ pre x W, J pre W → (∃ k, pre.map Kid.sv = ks.take k ∧ ks[k]? = some x.sv) → YieldAt F (n - 1) Try.prog l (Kid.enc x) W fun e W' =>
      (e = .returned (.bool true) ∧ J (pre ++ [x]) W' ∧ Below w0.heap.size W W') ∨ (e = .returned (.bool false) ∧ Jx (pre ++ [x]) W'))
    (W : World) (h0W : Below w0.heap.size w0 W) (hr : W.rangeAt Bv 0 cs) (h0 : J [] W) :
    CallsIn F n Try.prog 71 #[.func (.yield l) #[] #[], .pointer (some ⟨Bv, 0, none⟩)] W fun e W' => (∃ v, e = .returned v) ∧
      ((∃ xs : List (Kid w0 ks), xs.map Kid.sv = ks ∧ J xs W') ∨ (∃ pre : List (Kid w0 ks), (∃ k, k ≤ ks.length ∧ pre.map Kid.sv = ks.take k) ∧ Jx pre W')) := by
  obtain ⟨kd, b, m, f, tx, ty, its, fls⟩ := v
  unfold VlC at hv
  obtain ⟨ai, ni, ci, af, nf, cf, rfl, hI, hFl, hni, hnf, -, -, -, -, -, -, hci, hcf⟩ := hv
  unfold Small at hsm
  obtain ⟨hlI, hlF, -⟩ := hsm
  have bI : ni ≤ 1256584717458 := by rw [← VlsAt.len its _ _ hI]; exact hlI
  have bF : nf ≤ 1099511627776 := by rw [← FlsAt.len fls _ _ hFl]; exact hlF
  clear hlI hlF hni hnf hci hcf
  have x0 : W.cell? ⟨Bv, 0, none⟩ = some (.int .i64 kd) := hr 0 _ rfl
  have x6 : W.cell? ⟨Bv, 6, none⟩ = some (.slice ai ni ci) := hr 6 _ rfl
  have x7 : W.cell? ⟨Bv, 7, none⟩ = some (.slice af nf cf) := hr 7 _ rfl
  clear hr
  refine callsIn_of_wp Try.func71 rfl hF ?_ hro
  simp only [Try.ntmps71, List.size_toArray, List.length_cons, List.length_nil, Nat.reduceAdd, Nat.reduceSub, Array.replicate_succ, Array.replicate_zero, List.push_toArray, List.append_toArray, List.nil_append, List.cons_append]
  by_cases h5 : kd = 5
  · subst h5
    have hkl := VlsAt.len its _ _ hI
    have KL := hide (show ks.length = ni by rw [← hks, kids_list]; simp [hkl])
    have KK := hide (show ∀ (k : Nat) (u : Vl), its.list[k]? = some u → ks[k]? = some (⟨⟨#[]⟩, (k : Int), true⟩, u) from fun k u hu => by rw [← hks, kids_list]; simp [List.getElem?_zipIdx, hu])
    clear hkl hks
    gi_wp2
    gi_loopw [14] (fun i wr => ∃ (k : Nat) (pre : List (Kid w0 ks)), k ≤ ni ∧ i = .int .i64 k ∧ vl.Hid (pre.map Kid.sv = ks.take k) ∧ J pre wr ∧ Below w0.heap.size w0 wr) (fun i _ => ni - (intOf i).toNat)
    case atStart => exact ⟨0, [], Nat.zero_le _, rfl, hide (by simp), h0, h0W⟩
    case round =>
      obtain ⟨k, pre, hk, rfl, hp, hJs, hnx⟩ := hrel
      by_cases hlt : k < ni
      · have ki : (k : Int) < (ni : Int) := by omega
        obtain ⟨p, off, u, us, rfl, hg, hrow, hu⟩ := VlsAt.get its _ _ hI k hlt
        have hu' := hu
        obtain ⟨ukd, ub, um, uf, utx, uty, uits, ufls⟩ := u
        unfold VlC at hu'
        obtain ⟨uai, uni, uci, uaf, unf, ucf, rfl, -⟩ := hu'
        obtain ⟨z0, z1, z2, z3, z4, z5, z6, z7⟩ := Row8.eight (Row8.below hrow hnx)
        clear hrow
        obtain ⟨x, hx⟩ : ∃ x : Kid w0 ks, x.1 = (⟨⟨#[]⟩, (k : Int), true⟩, .mk ukd ub um uf utx uty uits ufls, [.int .i64 ukd, .bool ub, .int .i64 um, .float .f64 uf, .string utx, .string uty, .slice uai uni uci, .slice uaf unf ucf]) := ⟨⟨_, hu, List.mem_of_getElem? (unhide KK k _ hg)⟩, rfl⟩
        have hsv : x.sv = (⟨⟨#[]⟩, (k : Int), true⟩, .mk ukd ub um uf utx uty uits ufls) := by unfold Kid.sv; rw [hx]
        have henc : x.enc = #[.agg #[.string ⟨#[]⟩, .int .i64 (k : Int), .bool true], .agg #[.int .i64 ukd, .bool ub, .int .i64 um, .float .f64 uf, .string utx, .string uty, .slice uai uni uci, .slice uaf unf ucf]] := by unfold Kid.enc; rw [hx]
        have hnext := hide (take_map_snoc (unhide hp) (by rw [hsv]; exact unhide KK k _ hg))
        obtain ⟨fn, tmps, assign, body, hy, hR⟩ := hY pre x (wr.alloc (.cells #[.int .i64 ukd, .bool ub, .int .i64 um, .float .f64 uf, .string utx, .string uty, .slice uai uni uci, .slice uaf unf ucf] 27)) (hJ _ _ _ none hJs (World.grownBy_alloc _ _ none) (fun r e => by cases e)) ⟨k, unhide hp, by rw [hsv]; first | exact unhide KK k _ hg | exact unhide KK k nm _ hg⟩
        rw [henc] at hy
        have b3 : Below w0.heap.size w0 (wr.alloc (.cells #[.int .i64 ukd, .bool ub, .int .i64 um, .float .f64 uf, .string utx, .string uty, .slice uai uni uci, .slice uaf unf ucf] 27)) := hnx.alloc hnx.size _
        have B3 := hide b3
        have HR := hide hR
        have HG := hide hg
        clear hx hsv henc hg hu hY b3 hR x0 x6 x7
        have hsf := storeF
        gi_wp2
        clear hsf
        refine (unhide HR).mono ?_
        rintro e W3 (⟨rfl, hJ3, hk3⟩ | ⟨rfl, hJx3⟩)
        · gi_wp2
          go_roundw
          case rel => exact ⟨k + 1, _, by omega, by simp, hnext, hJ3, (unhide B3).trans hk3⟩
          case measure => simp [intOf]; omega
        · gi_wp2
          refine bodyPost_ret (results_none rfl _ _ _) rfl ?_
          exact ⟨⟨_, rfl⟩, .inr ⟨_, ⟨k + 1, by rw [unhide KL]; omega, unhide hnext⟩, hJx3⟩⟩
      · obtain rfl : k = ni := by omega
        gi_wp2
        go_end0
        refine ⟨⟨_, rfl⟩, .inl ⟨_, ?_, hJs⟩⟩
        have := unhide hp
        rwa [List.take_of_length_le (Nat.le_of_eq (unhide KL))] at this
  · by_cases h6 : kd = 6
    · subst h6
      have hkl := FlsAt.len fls _ _ hFl
      have KL := hide (show ks.length = nf by rw [← hks, kids_obj]; simp [hkl])
      have KK := hide (show ∀ (k : Nat) (nm : ByteArray) (u : Vl), fls.list[k]? = some (nm, u) → ks[k]? = some (⟨nm, 0, false⟩, u) from fun k nm u hu => by rw [← hks, kids_obj]; simp [hu])
      clear hkl hks
      gi_wp2
      gi_loopw [31] (fun i wr => ∃ (k : Nat) (pre : List (Kid w0 ks)), k ≤ nf ∧ i = .int .i64 k ∧ vl.Hid (pre.map Kid.sv = ks.take k) ∧ J pre wr ∧ Below w0.heap.size w0 wr) (fun i _ => nf - (intOf i).toNat)
      case atStart => exact ⟨0, [], Nat.zero_le _, rfl, hide (by simp), h0, h0W⟩
      case round =>
        obtain ⟨k, pre, hk, rfl, hp, hJs, hnx⟩ := hrel
        by_cases hlt : k < nf
        · have ki : (k : Int) < (nf : Int) := by omega
          obtain ⟨p, off, nm, u, us, rfl, hg, hn0, -, hrow, hu⟩ := FlsAt.get fls _ _ hFl k hlt
          have hu' := hu
          obtain ⟨ukd, ub, um, uf, utx, uty, uits, ufls⟩ := u
          unfold VlC at hu'
          obtain ⟨uai, uni, uci, uaf, unf, ucf, rfl, -⟩ := hu'
          obtain ⟨z0, z1, z2, z3, z4, z5, z6, z7⟩ := Row8.eight (Row8.below hrow hnx)
          have zn := keepC' hnx hn0
          clear hrow hn0
          obtain ⟨x, hx⟩ : ∃ x : Kid w0 ks, x.1 = (⟨nm, 0, false⟩, .mk ukd ub um uf utx uty uits ufls, [.int .i64 ukd, .bool ub, .int .i64 um, .float .f64 uf, .string utx, .string uty, .slice uai uni uci, .slice uaf unf ucf]) := ⟨⟨_, hu, List.mem_of_getElem? (unhide KK k nm _ hg)⟩, rfl⟩
          have hsv : x.sv = (⟨nm, 0, false⟩, .mk ukd ub um uf utx uty uits ufls) := by unfold Kid.sv; rw [hx]
          have henc : x.enc = #[.agg #[.string nm, .int .i64 0, .bool false], .agg #[.int .i64 ukd, .bool ub, .int .i64 um, .float .f64 uf, .string utx, .string uty, .slice uai uni uci, .slice uaf unf ucf]] := by unfold Kid.enc; rw [hx]
          have hnext := hide (take_map_snoc (unhide hp) (by rw [hsv]; exact unhide KK k nm _ hg))
          obtain ⟨fn, tmps, assign, body, hy, hR⟩ := hY pre x (wr.alloc (.cells #[.string nm, .int .i64 ukd, .bool ub, .int .i64 um, .float .f64 uf, .string utx, .string uty, .slice uai uni uci, .slice uaf unf ucf] 69)) (hJ _ _ _ none hJs (World.grownBy_alloc _ _ none) (fun r e => by cases e)) ⟨k, unhide hp, by rw [hsv]; first | exact unhide KK k _ hg | exact unhide KK k nm _ hg⟩
          rw [henc] at hy
          have b3 : Below w0.heap.size w0 (wr.alloc (.cells #[.string nm, .int .i64 ukd, .bool ub, .int .i64 um, .float .f64 uf, .string utx, .string uty, .slice uai uni uci, .slice uaf unf ucf] 69)) := hnx.alloc hnx.size _
          have B3 := hide b3
          have HR := hide hR
          have HG := hide hg
          clear hx hsv henc hg hu hY b3 hR x0 x6 x7
          have hsf := storeF
          gi_wp2
          clear hsf
          refine (unhide HR).mono ?_
          rintro e W3 (⟨rfl, hJ3, hk3⟩ | ⟨rfl, hJx3⟩)
          · gi_wp2
            go_roundw
            case rel => exact ⟨k + 1, _, by omega, by simp, hnext, hJ3, (unhide B3).trans hk3⟩
            case measure => simp [intOf]; omega
          · gi_wp2
            refine bodyPost_ret (results_none rfl _ _ _) rfl ?_
            exact ⟨⟨_, rfl⟩, .inr ⟨_, ⟨k + 1, by rw [unhide KL]; omega, unhide hnext⟩, hJx3⟩⟩
        · obtain rfl : k = nf := by omega
          gi_wp2
          go_end0
          refine ⟨⟨_, rfl⟩, .inl ⟨_, ?_, hJs⟩⟩
          have := unhide hp
          rwa [List.take_of_length_le (Nat.le_of_eq (unhide KL))] at this
    · have hq5 : (kd == 5) = false := by simpa using h5
      have hq6 : (kd == 6) = false := by simpa using h6
      have HK := hide (hks.symm.trans (kids_none h5 h6 b m f tx ty its fls))
      gi_wp2
      go_end0
      exact ⟨⟨_, rfl⟩, .inl ⟨[], by rw [unhide HK]; rfl, h0⟩⟩
/-- the children as a sequence that tells its next element -/
def AbC (B : Nat) (X Y : World) : Prop := ∃ row, X.grownBy Y row ∧ ∀ r, row = some r → B ≤ r ∧ ∃ o : Obj, X.heap[r]? = some o ∧ o.isWalk = true
theorem kids_T (F : Fence) (n : Nat) (hF : F.fn 71) (hro : F.round = none) (hn : 1 ≤ n) (Bv : Nat) (w0 : World) (v : Vl) (cs : List Value) (hv : VlC w0 v cs) (hsm : Small v) (W : World) (h0w : Below w0.heap.size w0 W) (hr : W.rangeAt Bv 0 cs) :
    SeqT F n Try.prog 71 #[.pointer (some ⟨Bv, 0, none⟩)] (Kid.enc (w0 := w0) (ks := kids v)) (fun _ _ => True) (AbC W.heap.size) (fun _ A A' => Below w0.heap.size A A') (fun xs => xs.map Kid.sv = kids v) (fun pre => ∃ k, k ≤ (kids v).length ∧ pre.map Kid.sv = (kids v).take k) (fun pre x => ∃ k, pre.map Kid.sv = (kids v).take k ∧ (kids v)[k]? = some x.sv) W :=
  fun l J Jx hJ hJx hY h0 => kids1_nx F n hF hro hn l Bv w0 v cs hv hsm (kids v) rfl J Jx W.heap.size (fun s X Y row hs hg hr => hJ s X Y hs ⟨row, hg, hr⟩) (fun pre x A hj hk => by
    obtain ⟨fn, tmps, assign, body, hy, hR⟩ := hY pre x A hj trivial hk
    exact ⟨fn, tmps, assign, body, hy, RoundIn.mono hR (fun e A' h => h.imp id (fun ⟨e1, h1, _⟩ => ⟨e1, h1⟩))⟩) W h0w hr h0
end Go.Proofs.Ythpcpminikmcbaa.og
namespace Go.Proofs.Ythpcpminikmcbaa.og
open Go.ChangeShapes Go.WideShapes Go.ChangeAt Go.RowKit
open vl hiding cB cFl cS cF cI cK cIt
open stp (St Pth St3)
set_option linter.unusedVariables false
set_option linter.unusedSimpArgs false
/-- a path in a block of its own -/
def PO (w : World) (path : List St) (ap : Option Addr) (n : Nat) (F : List Nat) : Prop :=
  n = path.length ∧ ((path = [] ∧ F = []) ∨ ∃ p, ap = some ⟨p, 0, none⟩ ∧ F = [p] ∧ ∀ (j : Nat) (s : St), path[j]? = some s → w.rangeAt p (j * 3) (stC s))
theorem PO.agree {w w' : World} {path : List St} {ap : Option Addr} {n : Nat} {F : List Nat} (h : PO w path ap n F) (ha : ∀ b ∈ F, w'.heap[b]? = w.heap[b]?) : PO w' path ap n F := by
  obtain ⟨h1, h2⟩ := h
  refine ⟨h1, ?_⟩
  rcases h2 with h2 | ⟨p, e, rfl, h2⟩
  · exact .inl h2
  · exact .inr ⟨p, e, rfl, fun j s hs i u hu => (cell_blk (ha p (List.mem_singleton.2 rfl)) _).trans (h2 j s hs i u hu)⟩
theorem PO.pth {w : World} {path : List St} {ap : Option Addr} {n : Nat} {F : List Nat} (h : PO w path ap n F) : Pth w ap n path := by
  obtain ⟨h1, h2⟩ := h
  refine ⟨h1.symm, ?_⟩
  rcases h2 with ⟨rfl, -⟩ | ⟨p, rfl, rfl, h2⟩
  · exact .inl (by simpa using h1)
  · by_cases h0 : n = 0
    · exact .inl h0
    · refine .inr ⟨p, 0, rfl, ?_, fun i hi => ?_⟩
      · obtain ⟨s, hs⟩ : ∃ s, path[0]? = some s := ⟨_, List.getElem?_eq_getElem (by omega)⟩
        exact World.block_lt_of_cell? w _ (h2 0 s hs 0 _ rfl)
      · obtain ⟨s, hs⟩ : ∃ s, path[i]? = some s := ⟨_, List.getElem?_eq_getElem (by omega)⟩
        refine ⟨s, hs, ?_⟩
        have := h2 i s hs
        rw [Nat.zero_add]
        exact ⟨this 0 _ rfl, this 1 _ rfl, this 2 _ rfl⟩
theorem PO.own {V w : World} {path : List St} {ap : Option Addr} {n c : Nat} {F : List Nat} {v : Vl} {cs : List Value} (h : PO w path ap n F) (hv : VlC V v cs) : OwP V w (path, v) (.slice ap n c :: cs) F := ⟨ap, n, c, cs, rfl, hv, h.1, h.2⟩
theorem PO.of_grs {w : World} {B : Nat} {path : List St} {sl : Value} (hne : path ≠ []) (h : GrS B path sl w) : ∃ g cap, sl = .slice (some ⟨g, 0, none⟩) path.length cap ∧ PO w path (some ⟨g, 0, none⟩) path.length [g] ∧ B ≤ g ∧ g < w.heap.size ∧ Fz w [g] := by
  have hl : 0 < path.length := List.length_pos_iff.2 hne
  obtain ⟨g, cap, cs, e, -, -⟩ := GrV.get h (fun e cs h => by rw [h]; rfl) (List.getElem?_eq_getElem hl)
  have hlt := h.lt g (by rw [e]; rfl)
  have hfz : ∀ j, w.frozen? ⟨g, j, none⟩ = false := by
    obtain ⟨xss, h1, -⟩ := h
    rw [e] at h1
    exact fun j => h1.frozenAt j
  refine ⟨g, cap, e, ⟨rfl, .inr ⟨g, rfl, rfl, fun j s hs => ?_⟩⟩, hlt.1, hlt.2, fun b hb j => by rw [List.mem_singleton.1 hb]; exact hfz j⟩
  obtain ⟨g', cap', cs', e', h1, h2⟩ := GrV.get h (fun e cs h => by rw [h]; rfl) hs
  rw [e] at e'
  simp only [Value.slice.injEq, Option.some.injEq, Addr.mk.injEq, and_true] at e'
  obtain ⟨rfl, -⟩ := e'
  rw [h1] at h2
  exact h2
theorem infoPz : ∃ i z, Try.prog.info? 44 = some i ∧ i.zero = some z ∧ i.size = 9 ∧ i.bytes = 136 ∧ z.cells.size = 9 := by
  have hin : (Try.prog.info? 44).map (fun i => (i.bytes, i.size, i.zero.isSome, (i.zero.map (fun z => z.cells.size)))) = some (136, 9, true, some 9) := by kernel_rfl
  cases hq : Try.prog.info? 44 with
  | none => simp [hq] at hin
  | some i =>
    simp [hq] at hin
    obtain ⟨h1, h2, h3, z, hz, h4⟩ := hin
    exact ⟨i, z, rfl, hz, h2, h1, h4⟩
theorem buildP {V : World} {v : Vl} {ds : List Value} (h : VlC V v ds) (ap : Option Addr) (n c : Nat) (w : World) : (Instr.buildSlice 38 1 #[(0, .agg (Value.slice ap n c :: ds).toArray)]).run Try.prog w = .ok (.slice (some ⟨w.heap.size, 0, none⟩) 1 1) (w.alloc (.cells (Value.slice ap n c :: ds).toArray 44)) := by
  cases v
  unfold VlC at h
  obtain ⟨_, _, _, _, _, _, rfl, -⟩ := h
  go_simp
/-- one part more -/
theorem wp_part {V w : World} {l : List (List St × Vl)} {sl : Value} {G F : List Nat} {path : List St} {ap : Option Addr} {n c : Nat} {v : Vl} {ds : List Value} {ops : Array Oper} {rest : List Oper} {o : Oper} {a : Act} {Q : Exit → Act → World → Prop}
    (hG : Grow (OwP V) 44 9 w V.heap.size l sl G) (hB : V.heap.size ≤ w.heap.size) (hP : PO w path ap n F) (hv : VlC V v ds) (hF : F.Nodup ∧ (∀ b ∈ F, V.heap.size ≤ b ∧ b < w.heap.size ∧ b ∉ G ∧ sl.ownBlock ≠ some b) ∧ Fz w F) (hgd : o.guard = none) (s x : Operand)
    (ho : o.op = .call { callee := .builtin .append, args := #[s, x], argTypes := #[38, 38] }) (hs : a.eval s = sl) (N : Nat) (hN : N = w.heap.size) (hx : a.eval x = .slice (some ⟨N, 0, none⟩) 1 1) (hn : l.length + 1 ≤ 1048576)
    (h : ∀ aj nj cj w', Grow (OwP V) 44 9 w' V.heap.size (l ++ [(path, v)]) (.slice aj nj cj) (G ++ F) → Below V.heap.size w w' → (∀ b, b < w.heap.size → sl.ownBlock ≠ some b → w'.heap[b]? = w.heap[b]?) → (∀ k, (Value.slice aj nj cj).ownBlock = some k → sl.ownBlock = some k ∨ w.heap.size ≤ k) → wpList Try.prog ops Q rest (a.put o.dst (.slice aj nj cj)) w') : wpList Try.prog ops Q (o :: rest) a (w.alloc (.cells (Value.slice ap n c :: ds).toArray 44)) := by
  obtain ⟨i, z, hi, hz, hsz, hb, hc⟩ := infoPz
  have d1 := hv.one
  have hone : ∀ u ∈ Value.slice ap n c :: ds, u.oneCell' = true := fun u hu => by
    rcases List.mem_cons.1 hu with rfl | hu
    · rfl
    · exact (Array.all_eq_true_iff_forall_mem.1 d1) u (by simpa using hu)
  refine wpList_plain hgd fun _ hK => wpO_growA (agP V) s x ho Try.underlying38 hi hz hsz hb hc (by omega) V.heap.size l sl G hs hG (path, v) (Value.slice ap n c :: ds) F (hP.own hv) (by simp [hv.cells]) hone hF.1 hF.2.1 hF.2.2 N hN hx (by omega) (by unfold maxLen; omega) hB ?_
  intro sl' w' g1 g2 g3 g4
  obtain ⟨aj, nj, cj, rfl⟩ := g1.form
  exact hK _ _ (h aj nj cj w' g1 g2 g3 g4)
end Go.Proofs.Ythpcpminikmcbaa.og
namespace Go.Proofs.Ythpcpminikmcbaa.og
open Go.ChangeShapes Go.WideShapes Go.ChangeAt Go.RowKit
open vl hiding cB cFl cS cF cI cK cIt
open stp (St Pth St3)
set_option linter.unusedVariables false
set_option linter.unusedSimpArgs false
/-- ref03.parts at a value -/
def PartsAt (v : Vl) : Prop := ∀ (V : World) (cs : List Value) (w : World) (path : List St) (ap : Option Addr) (n c : Nat) (F : List Nat) (l : List (List St × Vl)) (sl : Value) (G : List Nat),
  VlC V v cs → Below V.heap.size V w → Grow (OwP V) 44 9 w V.heap.size l sl G → PO w path ap n F → (F.Nodup ∧ (∀ b ∈ F, V.heap.size ≤ b ∧ b < w.heap.size ∧ b ∉ G ∧ sl.ownBlock ≠ some b) ∧ Fz w F) → l.length + cnt v ≤ 1048576 → path.length + cnt v ≤ 1048576 →
  Calls Try.prog 31 #[.agg cs.toArray, .slice ap n c, sl] w fun e w' => ∃ sl' G', e = .returned sl' ∧ Grow (OwP V) 44 9 w' V.heap.size (l ++ pts v path) sl' G' ∧ Below V.heap.size w w' ∧ (∀ b, b < w.heap.size → sl.ownBlock ≠ some b → w'.heap[b]? = w.heap[b]?) ∧ (∀ k, sl'.ownBlock = some k → sl.ownBlock = some k ∨ w.heap.size ≤ k)
/-- what the loop keeps -/
structure PrS (V w w2 : World) (sl s4 s5 : Value) (L4 : List St) (L5 : List Vl) (l : List (List St × Vl)) (sl' : Value) (G' : List Nat) (wr : World) : Prop where
  grow : Grow (OwP V) 44 9 wr V.heap.size l sl' G'
  g4 : GrS w2.heap.size L4 s4 wr
  g5 : GrV (fun v cs => VlC V v cs) 27 8 w2.heap.size L5 s5 wr
  bel : Below V.heap.size w wr
  hold : ∀ b, b < w.heap.size → sl.ownBlock ≠ some b → wr.heap[b]? = w.heap[b]?
  ownN : ∀ k, sl'.ownBlock = some k → sl.ownBlock = some k ∨ w.heap.size ≤ k
  own4 : ∀ b, s4.ownBlock = some b ∨ s5.ownBlock = some b → sl'.ownBlock ≠ some b
theorem GrV.keep {E : Type} {R : E → List Value → Prop} {t : TypeId} {size B : Nat} {l : List E} {sl : Value} {w w' : World} (h : GrV R t size B l sl w) (hk : ∀ b, sl.ownBlock = some b → w'.heap[b]? = w.heap[b]?) : GrV R t size B l sl w' := by
  obtain ⟨xss, h1, h2⟩ := h
  exact ⟨xss, ⟨h1.1, h1.2.imp id (fun ⟨g, cap, cur, e, hg, hh, r⟩ => ⟨g, cap, cur, e, hg, (hk g (by rw [e]; rfl)).trans hh, r⟩)⟩, h2⟩
theorem GrV.form {E : Type} {R : E → List Value → Prop} {t : TypeId} {size B : Nat} {l : List E} {sl : Value} {w : World} (h : GrV R t size B l sl w) : ∃ a c, sl = .slice a l.length c := by
  obtain ⟨xss, h1, h2⟩ := h
  rcases h1.2 with ⟨e, h0⟩ | ⟨g, cap, cur, e, -⟩
  · exact ⟨none, 0, by rw [e, h0]⟩
  · exact ⟨_, _, e⟩
theorem cnt_kid {v : Vl} {k : Nat} {q : St × Vl} (h : (kids v)[k]? = some q) : cnt q.2 + (((kids v).take k).map (fun q => cnt q.2)).sum + 1 ≤ cnt v := by
  rw [cnt_kids v]
  have e : kids v = (kids v).take k ++ (kids v).drop k := (List.take_append_drop k _).symm
  have hk := (List.getElem?_eq_some_iff.1 h)
  obtain ⟨hk, he⟩ := hk
  have e2 : ((kids v).map (fun q => cnt q.2)).sum = (((kids v).take k).map (fun q => cnt q.2)).sum + (((kids v).drop k).map (fun q => cnt q.2)).sum := by
    conv => lhs; rw [e]
    rw [List.map_append, List.sum_append]
  rw [e2, List.drop_eq_getElem_cons hk, he, List.map_cons, List.sum_cons]
  omega
theorem flat_len (path : List St) : ∀ l : List (St × Vl), (l.flatMap (fun q => pts q.2 (path ++ [q.1]))).length = (l.map (fun q => cnt q.2)).sum
  | [] => rfl
  | a :: l => by rw [List.flatMap_cons, List.length_append, pts_len, flat_len path l]; simp
end Go.Proofs.Ythpcpminikmcbaa.og
namespace Go.Proofs.Ythpcpminikmcbaa.og
open Go.ChangeShapes Go.WideShapes Go.ChangeAt Go.RowKit Go.Shelf
open vl hiding cB cFl cS cF cI cK cIt
open stp (St Pth St3)
open wk
attribute [local go_sem] Oper.semAt_some
set_option linter.unusedVariables false
set_option linter.unusedSimpArgs false
theorem walkFrom_in (F : Fence) (n : Nat) (hF : F.fn 32) (hro : F.round = none) (ap : Option Addr) (np cp : Nat) (cs : List Value) (w : World) :
    CallsIn F n Try.prog 32 #[.slice ap np cp, .agg cs.toArray] w fun e w' => e = .returned (.func (.func 56) #[] #[.pointer (some ⟨w.heap.size, 0, none⟩), .pointer (some ⟨w.heap.size + 1, 0, none⟩)]) ∧ w' = (w.alloc (.cells #[.slice ap np cp] 29)).alloc (.cells cs.toArray 27) := by
  refine callsIn_of_wp Try.func32 rfl hF ?_ hro
  simp only [Try.ntmps32, List.size_toArray, List.length_cons, List.length_nil, Nat.reduceAdd, Nat.reduceSub, Array.replicate_succ, Array.replicate_zero, List.push_toArray, List.append_toArray, List.nil_append, List.cons_append]
  gi_wp2
  go_ret
  exact ⟨rfl, rfl⟩
theorem below_symm {w0 A B : World} (h : Below w0.heap.size w0 A) (k : Below w0.heap.size w0 B) (hs : A.heap.size ≤ B.heap.size) : Below w0.heap.size A B := ⟨k.os.trans h.os.symm, k.tape.trans h.tape.symm, k.output.trans h.output.symm, hs, fun q hq => (k.block q hq).trans (h.block q hq).symm⟩
/-- what a call of yield has left: it goes on, or not -/
def YeP {w0 : World} (J Jx : List (Wel w0) → World → Prop) (pre : List (Wel w0)) (K : World → World → Prop) (A : World) (bt : Bool) (A' : World) : Prop := (bt = true ∧ J pre A' ∧ K A A') ∨ (bt = false ∧ Jx pre A' ∧ K A A')
theorem ye_of {F : Fence} {k l : Nat} {fn : FuncId} {tmps : Array Value} {assign body : Code} {w0 : World} {J Jx : List (Wel w0) → World → Prop} {pre : List (Wel w0)} {K : World → World → Prop} {A : World}
    (h : RoundIn F k Try.prog l fn tmps assign body A fun e A' => (e = .returned (.bool true) ∧ J pre A' ∧ K A A') ∨ (e = .returned (.bool false) ∧ Jx pre A' ∧ K A A')) :
    RoundIn F k Try.prog l fn tmps assign body A fun e A' => ∃ bt, e = .returned (.bool bt) ∧ YeP J Jx pre K A bt A' :=
  RoundIn.mono h (fun e A' h => by
    rcases h with ⟨rfl, h1, h2⟩ | ⟨rfl, h1, h2⟩
    · exact ⟨true, rfl, .inl ⟨rfl, h1, h2⟩⟩
    · exact ⟨false, rfl, .inr ⟨rfl, h1, h2⟩⟩)
theorem wpIn_app {F : Fence} {n : Nat} {P : Program} {w w' : World} {o : Oper} {a : Act} {K : Act → World → Prop} {Q : Exit → Act → World → Prop} {t : TypeId} {vs vx v : Value} (s x : Operand)
    (hop : o.op = .call { callee := .builtin .append, args := #[s, x], argTypes := #[t, t] }) (hs : a.eval s = vs) (hx : a.eval x = vx) (hrun : (Builtin.append_ #[t, t] o.type #[vs, vx]).run P w = .ok v w') (h : K (a.put o.dst v) w') : o.wpIn F n P a w K Q := by
  unfold Oper.wpIn
  refine ⟨?_, ?_⟩
  · simp [Oper.about, hop, resolve, Target.leads, Sem.run_pure]
  · rw [Oper.semAt_plain F _ _ (by rw [hop]; intro c hc'; cases hc')]
    simp [execOp, hop, resolve, invoke, builtin, hs, hx, hrun, Result.andThen]
    exact h
set_option maxRecDepth 100000 in
set_option maxHeartbeats 1000000 in
theorem walk_step (v : Vl) (hsm : Small v) (ih : ∀ p ∈ kids v, WalkAt p.2) : WalkAt v := by
  intro w0 cs hv n ss sl bp bv Bp W h0W hBp hbp hbv hbox hrv hG hne hnil hlen hBpW l J Jx hJ hJx hY h0
  have hcp : 1 ≤ cnt v := by rw [cnt_kids]; omega
  have hc0 := hv
  obtain ⟨kd, b, m, f, tx, ty, its, fls⟩ := v
  unfold VlC at hc0
  obtain ⟨ai, ni, ci, af, nf, cf, rfl, -⟩ := hc0
  have hsf := storeF
  have hGl := hG.lt
  have hbpl := hbox.lt
  have hbvl : bv < W.heap.size := World.block_lt_of_cell? W _ (hrv 0 _ rfl)
  have s0W := h0W.size
  obtain ⟨V1, eV1⟩ : ∃ V1, V1 = W.alloc (.cells #[Value.func (Fn.yield l) #[] #[]] 92) := ⟨_, rfl⟩
  have b1 : Below W.heap.size W V1 := by rw [eV1]; exact (Below.refl _ _).alloc (Nat.le_refl _) _
  have s1 : V1.heap.size = W.heap.size + 1 := by rw [eV1]; simp
  have y1 : Boxed V1 W.heap.size 92 (.func (.yield l) #[] #[]) := by rw [eV1]; exact Boxed.new _ _ _
  obtain ⟨V2, eV2⟩ : ∃ V2 : World, V2 = V1.drew := ⟨_, rfl⟩
  have b2 : Below V1.heap.size V1 V2 := by rw [eV2]; exact (Below.refl _ _).drew
  have s2 : V2.heap.size = W.heap.size + 1 := by rw [eV2]; exact s1
  have b02 : Below W.heap.size W V2 := b1.trans (b2.mono (by omega))
  have hG2 : GrS Bp ss sl V2 := Ch.grs_far (Ch.of_below (G := none) (m := 0) (fun g e => by cases e) b02) (fun q hq => ⟨(hGl q hq).2, by simp⟩) hG
  obtain ⟨a1, c1, A, hrun, hGA, bA⟩ := copy_run V2 29 hG2 hnil (by omega)
  have b0A : Below W.heap.size W A := b02.trans (bA.mono (by omega))
  have sA : W.heap.size + 1 ≤ A.heap.size := by have := bA.size; omega
  have y2 : Boxed V2 W.heap.size 92 (.func (.yield l) #[] #[]) := (b2.block _ y1.lt).trans y1
  have yA : Boxed A W.heap.size 92 (.func (.yield l) #[] #[]) := (bA.block _ y2.lt).trans y2
  have xA := hide (show A.rangeAt bv 0 [Value.int IntKind.i64 kd, Value.bool b, Value.int IntKind.i64 m, Value.float FloatKind.f64 f, Value.string tx, Value.string ty, Value.slice ai ni ci, Value.slice af nf cf] from Row8.below hrv b0A)
  have pA := hide ((b0A.block _ hbpl).trans hbox : Boxed A bp 29 sl)
  have gA := hide (Ch.grs_far (Ch.of_below (G := none) (m := 0) (fun g e => by cases e) b0A) (fun q hq => ⟨(hGl q hq).2, by simp⟩) hG)
  obtain ⟨x0, ex0⟩ : ∃ x0 : Wel w0, x0 = ⟨ss, .mk kd b m f tx ty its fls, [Value.int IntKind.i64 kd, Value.bool b, Value.int IntKind.i64 m, Value.float FloatKind.f64 f, Value.string tx, Value.string ty, Value.slice ai ni ci, Value.slice af nf cf], hv, a1, c1⟩ := ⟨_, rfl⟩
  have epv : x0.pv = (ss, .mk kd b m f tx ty its fls) := by rw [ex0]; rfl
  have esl : x0.sl = .slice a1 ss.length c1 := by rw [ex0]; rfl
  have hgl1 := hGA.lt
  obtain ⟨fn, tmps, assign, body, hy, hR⟩ := yield_wide (m := 7) (hY [] x0 A (hJ [] W A h0 (Ch.of_below (fun g e => (hGl g e).2) b0A)) (by
    have : GrS W.heap.size x0.ss x0.sl A := by rw [ex0]; exact GrS.older hGA (by omega)
    exact this) ⟨_, by rw [ex0, pts_kids]; rfl⟩)
  have HR := hide (ye_of hR)
  have hy1 : (Instr.yield l #[.slice a1 ss.length c1, .agg #[Value.int IntKind.i64 kd, Value.bool b, Value.int IntKind.i64 m, Value.float FloatKind.f64 f, Value.string tx, Value.string ty, Value.slice ai ni ci, Value.slice af nf cf]]).run Try.prog A = .ok (.round l fn tmps assign body) A := by rw [ex0] at hy; exact hy
  have GA := hide hGA
  clear hR hy
  have c1a : V2.cell? ⟨W.heap.size, 0, none⟩ = some (.func (.yield l) #[] #[]) := y2.cell
  have c1b : A.cell? ⟨W.heap.size, 0, none⟩ = some (.func (.yield l) #[] #[]) := yA.cell
  have c2a : V2.cell? ⟨bp, 0, none⟩ = some sl := Boxed.cell ((b02.block _ hbpl).trans hbox : Boxed V2 bp 29 sl)
  obtain ⟨z0, z1, z2, z3, z4, z5, z6, z7⟩ := Row8.eight (Row8.below hrv b02)
  obtain ⟨k0, k1, k2, k3, k4, k5, k6, k7⟩ := Row8.eight (Row8.below hrv b0A)
  simp only [Nat.zero_add] at z1 z2 z3 z4 z5 z6 z7 k1 k2 k3 k4 k5 k6 k7
  have EV1 := hide eV1
  have S := hide (And.intro hGl (And.intro hbpl (And.intro hbvl (And.intro s0W (And.intro s1 (And.intro s2 (And.intro sA (And.intro hgl1 (And.intro b0A (And.intro hlen (And.intro hne yA)))))))))))
  clear hGl hbpl hbvl s0W s1 s2 sA hgl1 b0A hlen hne yA y1 y2 eV1 b1 b2 b02 bA hGA hG hG2
  subst eV2
  have HV := hide hv
  have HY := hide hY
  have HJ := hide hJ
  have HJx := hide hJx
  have IH := hide ih
  clear hY hJ hJx ih ex0 h0 hbox hrv hv
  refine callsIn_wide.2 ?_
  refine (callsIn_wide (n := 8)).1 ?_
  refine callsIn_of_wp_marks Try.func56 rfl trivial ?_ rfl
  simp only [Try.ntmps56, List.size_toArray, List.length_cons, List.length_nil, Nat.reduceAdd, Nat.reduceSub, Array.replicate_succ, Array.replicate_zero, List.push_toArray, List.append_toArray, List.nil_append, List.cons_append]
  gi_wp2_with fail
  rw [← unhide EV1]
  refine wpIn_mono (Q := fun e a' w' => e = .normal ∧ ∃ bt, vl.Hid (YeP J Jx ([] ++ [x0]) (fun A A' => Kz (Zw w0 W.heap.size bp bv sl.ownBlock) x0.sl.ownBlock A A') A bt w') ∧ a' = { tmps := #[.func (.yield l) #[] #[], .pointer (some ⟨bp, 0, none⟩), .pointer (some ⟨bv, 0, none⟩), .pointer (some ⟨W.heap.size, 0, none⟩), undef, undef, undef, undef, .func (.yield l) #[] #[], sl, .slice a1 ss.length c1, .agg #[Value.int IntKind.i64 kd, Value.bool b, Value.int IntKind.i64 m, Value.float FloatKind.f64 f, Value.string tx, Value.string ty, Value.slice ai ni ci, Value.slice af nf cf], .bool bt, .bool (!bt), undef, undef, undef, undef, undef, undef, undef, undef, undef, undef, undef, undef, undef, undef, undef, undef, undef], defers := [] }) ?reg ?cont
  case reg =>
    refine wpIn_region_any mixed ?_
    change wpAnyIn _ _ _ _ _ _ _ _ _ (World.drew _)
    refine wpAnyIn_ready (rs := [0, 1, 3]) (by kernel_rfl) (by simp) ?_
    refine AllReadyIn.cons rfl (fun K hK => ?_) ?_
    · go_simp
      refine hK _ _ ?_
      clear hK K
      refine wpAnyIn_ready (rs := [1, 3]) (by kernel_rfl) (by simp) ?_
      refine AllReadyIn.cons rfl (fun K hK => ?_) ?_
      · go_simp
        refine hK _ _ ?_
        clear hK K
        refine wpAnyIn_ready (rs := [2, 3]) (by kernel_rfl) (by simp) ?_
        refine AllReadyIn.cons rfl (fun K hK => ?_) ?_
        · rw [if_pos (by rfl)]
          refine wpIn_app _ _ (by rfl) (by rfl) (by rfl) hrun ?_
          refine hK _ _ ?_
          clear hK K
          refine wpAnyIn_ready (rs := [3]) (by kernel_rfl) (by simp) ?_
          refine AllReadyIn.cons rfl (fun K hK => ?_) ?_
          · go_simp
            refine hK _ _ ?_
            clear hK K
            refine wpAnyIn_ready (rs := [4]) (by kernel_rfl) (by simp) ?_
            refine AllReadyIn.cons rfl (fun K hK => ?_) AllReadyIn.nil
            go_simp
            gi_wp2_with (refine RoundIn.mono (unhide HR) ?_; rintro e A2 ⟨bt, rfl, hp⟩; have HP := hide hp; clear hp)
            refine wpAnyIn_ready (rs := [5]) (by kernel_rfl) (by simp) ?_
            refine AllReadyIn.cons rfl (fun K hK => ?_) AllReadyIn.nil
            go_simp
            refine hK _ _ ?_
            clear hK K
            refine wpAnyIn_done (by kernel_rfl) ?_ _
            exact ⟨rfl, bt, HP, rfl⟩
          exact AllReadyIn.nil
        refine AllReadyIn.cons rfl (fun K hK => ?_) ?_
        · go_simp
          refine hK _ _ ?_
          clear hK K
          refine wpAnyIn_ready (rs := [2]) (by kernel_rfl) (by simp) ?_
          refine AllReadyIn.cons rfl (fun K hK => ?_) ?_
          · rw [if_pos (by rfl)]
            refine wpIn_app _ _ (by rfl) (by rfl) (by rfl) hrun ?_
            refine hK _ _ ?_
            clear hK K
            refine wpAnyIn_ready (rs := [4]) (by kernel_rfl) (by simp) ?_
            refine AllReadyIn.cons rfl (fun K hK => ?_) AllReadyIn.nil
            go_simp
            gi_wp2_with (refine RoundIn.mono (unhide HR) ?_; rintro e A2 ⟨bt, rfl, hp⟩; have HP := hide hp; clear hp)
            refine wpAnyIn_ready (rs := [5]) (by kernel_rfl) (by simp) ?_
            refine AllReadyIn.cons rfl (fun K hK => ?_) AllReadyIn.nil
            go_simp
            refine hK _ _ ?_
            clear hK K
            refine wpAnyIn_done (by kernel_rfl) ?_ _
            exact ⟨rfl, bt, HP, rfl⟩
          exact AllReadyIn.nil
        exact AllReadyIn.nil
      refine AllReadyIn.cons rfl (fun K hK => ?_) ?_
      · go_simp
        refine hK _ _ ?_
        clear hK K
        refine wpAnyIn_ready (rs := [1]) (by kernel_rfl) (by simp) ?_
        refine AllReadyIn.cons rfl (fun K hK => ?_) ?_
        · go_simp
          refine hK _ _ ?_
          clear hK K
          refine wpAnyIn_ready (rs := [2]) (by kernel_rfl) (by simp) ?_
          refine AllReadyIn.cons rfl (fun K hK => ?_) ?_
          · rw [if_pos (by rfl)]
            refine wpIn_app _ _ (by rfl) (by rfl) (by rfl) hrun ?_
            refine hK _ _ ?_
            clear hK K
            refine wpAnyIn_ready (rs := [4]) (by kernel_rfl) (by simp) ?_
            refine AllReadyIn.cons rfl (fun K hK => ?_) AllReadyIn.nil
            go_simp
            gi_wp2_with (refine RoundIn.mono (unhide HR) ?_; rintro e A2 ⟨bt, rfl, hp⟩; have HP := hide hp; clear hp)
            refine wpAnyIn_ready (rs := [5]) (by kernel_rfl) (by simp) ?_
            refine AllReadyIn.cons rfl (fun K hK => ?_) AllReadyIn.nil
            go_simp
            refine hK _ _ ?_
            clear hK K
            refine wpAnyIn_done (by kernel_rfl) ?_ _
            exact ⟨rfl, bt, HP, rfl⟩
          exact AllReadyIn.nil
        exact AllReadyIn.nil
      exact AllReadyIn.nil
    refine AllReadyIn.cons rfl (fun K hK => ?_) ?_
    · go_simp
      refine hK _ _ ?_
      clear hK K
      refine wpAnyIn_ready (rs := [0, 2, 3]) (by kernel_rfl) (by simp) ?_
      refine AllReadyIn.cons rfl (fun K hK => ?_) ?_
      · go_simp
        refine hK _ _ ?_
        clear hK K
        refine wpAnyIn_ready (rs := [2, 3]) (by kernel_rfl) (by simp) ?_
        refine AllReadyIn.cons rfl (fun K hK => ?_) ?_
        · rw [if_pos (by rfl)]
          refine wpIn_app _ _ (by rfl) (by rfl) (by rfl) hrun ?_
          refine hK _ _ ?_
          clear hK K
          refine wpAnyIn_ready (rs := [3]) (by kernel_rfl) (by simp) ?_
          refine AllReadyIn.cons rfl (fun K hK => ?_) ?_
          · go_simp
            refine hK _ _ ?_
            clear hK K
            refine wpAnyIn_ready (rs := [4]) (by kernel_rfl) (by simp) ?_
            refine AllReadyIn.cons rfl (fun K hK => ?_) AllReadyIn.nil
            go_simp
            gi_wp2_with (refine RoundIn.mono (unhide HR) ?_; rintro e A2 ⟨bt, rfl, hp⟩; have HP := hide hp; clear hp)
            refine wpAnyIn_ready (rs := [5]) (by kernel_rfl) (by simp) ?_
            refine AllReadyIn.cons rfl (fun K hK => ?_) AllReadyIn.nil
            go_simp
            refine hK _ _ ?_
            clear hK K
            refine wpAnyIn_done (by kernel_rfl) ?_ _
            exact ⟨rfl, bt, HP, rfl⟩
          exact AllReadyIn.nil
        refine AllReadyIn.cons rfl (fun K hK => ?_) ?_
        · go_simp
          refine hK _ _ ?_
          clear hK K
          refine wpAnyIn_ready (rs := [2]) (by kernel_rfl) (by simp) ?_
          refine AllReadyIn.cons rfl (fun K hK => ?_) ?_
          · rw [if_pos (by rfl)]
            refine wpIn_app _ _ (by rfl) (by rfl) (by rfl) hrun ?_
            refine hK _ _ ?_
            clear hK K
            refine wpAnyIn_ready (rs := [4]) (by kernel_rfl) (by simp) ?_
            refine AllReadyIn.cons rfl (fun K hK => ?_) AllReadyIn.nil
            go_simp
            gi_wp2_with (refine RoundIn.mono (unhide HR) ?_; rintro e A2 ⟨bt, rfl, hp⟩; have HP := hide hp; clear hp)
            refine wpAnyIn_ready (rs := [5]) (by kernel_rfl) (by simp) ?_
            refine AllReadyIn.cons rfl (fun K hK => ?_) AllReadyIn.nil
            go_simp
            refine hK _ _ ?_
            clear hK K
            refine wpAnyIn_done (by kernel_rfl) ?_ _
            exact ⟨rfl, bt, HP, rfl⟩
          exact AllReadyIn.nil
        exact AllReadyIn.nil
      refine AllReadyIn.cons rfl (fun K hK => ?_) ?_
      · rw [if_pos (by rfl)]
        refine wpIn_app _ _ (by rfl) (by rfl) (by rfl) hrun ?_
        refine hK _ _ ?_
        clear hK K
        refine wpAnyIn_ready (rs := [0, 3]) (by kernel_rfl) (by simp) ?_
        refine AllReadyIn.cons rfl (fun K hK => ?_) ?_
        · go_simp
          refine hK _ _ ?_
          clear hK K
          refine wpAnyIn_ready (rs := [3]) (by kernel_rfl) (by simp) ?_
          refine AllReadyIn.cons rfl (fun K hK => ?_) ?_
          · go_simp
            refine hK _ _ ?_
            clear hK K
            refine wpAnyIn_ready (rs := [4]) (by kernel_rfl) (by simp) ?_
            refine AllReadyIn.cons rfl (fun K hK => ?_) AllReadyIn.nil
            go_simp
            gi_wp2_with (refine RoundIn.mono (unhide HR) ?_; rintro e A2 ⟨bt, rfl, hp⟩; have HP := hide hp; clear hp)
            refine wpAnyIn_ready (rs := [5]) (by kernel_rfl) (by simp) ?_
            refine AllReadyIn.cons rfl (fun K hK => ?_) AllReadyIn.nil
            go_simp
            refine hK _ _ ?_
            clear hK K
            refine wpAnyIn_done (by kernel_rfl) ?_ _
            exact ⟨rfl, bt, HP, rfl⟩
          exact AllReadyIn.nil
        refine AllReadyIn.cons rfl (fun K hK => ?_) ?_
        · go_simp
          refine hK _ _ ?_
          clear hK K
          refine wpAnyIn_ready (rs := [0]) (by kernel_rfl) (by simp) ?_
          refine AllReadyIn.cons rfl (fun K hK => ?_) ?_
          · go_simp
            refine hK _ _ ?_
            clear hK K
            refine wpAnyIn_ready (rs := [4]) (by kernel_rfl) (by simp) ?_
            refine AllReadyIn.cons rfl (fun K hK => ?_) AllReadyIn.nil
            go_simp
            gi_wp2_with (refine RoundIn.mono (unhide HR) ?_; rintro e A2 ⟨bt, rfl, hp⟩; have HP := hide hp; clear hp)
            refine wpAnyIn_ready (rs := [5]) (by kernel_rfl) (by simp) ?_
            refine AllReadyIn.cons rfl (fun K hK => ?_) AllReadyIn.nil
            go_simp
            refine hK _ _ ?_
            clear hK K
            refine wpAnyIn_done (by kernel_rfl) ?_ _
            exact ⟨rfl, bt, HP, rfl⟩
          exact AllReadyIn.nil
        exact AllReadyIn.nil
      refine AllReadyIn.cons rfl (fun K hK => ?_) ?_
      · go_simp
        refine hK _ _ ?_
        clear hK K
        refine wpAnyIn_ready (rs := [0, 2]) (by kernel_rfl) (by simp) ?_
        refine AllReadyIn.cons rfl (fun K hK => ?_) ?_
        · go_simp
          refine hK _ _ ?_
          clear hK K
          refine wpAnyIn_ready (rs := [2]) (by kernel_rfl) (by simp) ?_
          refine AllReadyIn.cons rfl (fun K hK => ?_) ?_
          · rw [if_pos (by rfl)]
            refine wpIn_app _ _ (by rfl) (by rfl) (by rfl) hrun ?_
            refine hK _ _ ?_
            clear hK K
            refine wpAnyIn_ready (rs := [4]) (by kernel_rfl) (by simp) ?_
            refine AllReadyIn.cons rfl (fun K hK => ?_) AllReadyIn.nil
            go_simp
            gi_wp2_with (refine RoundIn.mono (unhide HR) ?_; rintro e A2 ⟨bt, rfl, hp⟩; have HP := hide hp; clear hp)
            refine wpAnyIn_ready (rs := [5]) (by kernel_rfl) (by simp) ?_
            refine AllReadyIn.cons rfl (fun K hK => ?_) AllReadyIn.nil
            go_simp
            refine hK _ _ ?_
            clear hK K
            refine wpAnyIn_done (by kernel_rfl) ?_ _
            exact ⟨rfl, bt, HP, rfl⟩
          exact AllReadyIn.nil
        refine AllReadyIn.cons rfl (fun K hK => ?_) ?_
        · rw [if_pos (by rfl)]
          refine wpIn_app _ _ (by rfl) (by rfl) (by rfl) hrun ?_
          refine hK _ _ ?_
          clear hK K
          refine wpAnyIn_ready (rs := [0]) (by kernel_rfl) (by simp) ?_
          refine AllReadyIn.cons rfl (fun K hK => ?_) ?_
          · go_simp
            refine hK _ _ ?_
            clear hK K
            refine wpAnyIn_ready (rs := [4]) (by kernel_rfl) (by simp) ?_
            refine AllReadyIn.cons rfl (fun K hK => ?_) AllReadyIn.nil
            go_simp
            gi_wp2_with (refine RoundIn.mono (unhide HR) ?_; rintro e A2 ⟨bt, rfl, hp⟩; have HP := hide hp; clear hp)
            refine wpAnyIn_ready (rs := [5]) (by kernel_rfl) (by simp) ?_
            refine AllReadyIn.cons rfl (fun K hK => ?_) AllReadyIn.nil
            go_simp
            refine hK _ _ ?_
            clear hK K
            refine wpAnyIn_done (by kernel_rfl) ?_ _
            exact ⟨rfl, bt, HP, rfl⟩
          exact AllReadyIn.nil
        exact AllReadyIn.nil
      exact AllReadyIn.nil
    refine AllReadyIn.cons rfl (fun K hK => ?_) ?_
    · go_simp
      refine hK _ _ ?_
      clear hK K
      refine wpAnyIn_ready (rs := [0, 1]) (by kernel_rfl) (by simp) ?_
      refine AllReadyIn.cons rfl (fun K hK => ?_) ?_
      · go_simp
        refine hK _ _ ?_
        clear hK K
        refine wpAnyIn_ready (rs := [1]) (by kernel_rfl) (by simp) ?_
        refine AllReadyIn.cons rfl (fun K hK => ?_) ?_
        · go_simp
          refine hK _ _ ?_
          clear hK K
          refine wpAnyIn_ready (rs := [2]) (by kernel_rfl) (by simp) ?_
          refine AllReadyIn.cons rfl (fun K hK => ?_) ?_
          · rw [if_pos (by rfl)]
            refine wpIn_app _ _ (by rfl) (by rfl) (by rfl) hrun ?_
            refine hK _ _ ?_
            clear hK K
            refine wpAnyIn_ready (rs := [4]) (by kernel_rfl) (by simp) ?_
            refine AllReadyIn.cons rfl (fun K hK => ?_) AllReadyIn.nil
            go_simp
            gi_wp2_with (refine RoundIn.mono (unhide HR) ?_; rintro e A2 ⟨bt, rfl, hp⟩; have HP := hide hp; clear hp)
            refine wpAnyIn_ready (rs := [5]) (by kernel_rfl) (by simp) ?_
            refine AllReadyIn.cons rfl (fun K hK => ?_) AllReadyIn.nil
            go_simp
            refine hK _ _ ?_
            clear hK K
            refine wpAnyIn_done (by kernel_rfl) ?_ _
            exact ⟨rfl, bt, HP, rfl⟩
          exact AllReadyIn.nil
        exact AllReadyIn.nil
      refine AllReadyIn.cons rfl (fun K hK => ?_) ?_
      · go_simp
        refine hK _ _ ?_
        clear hK K
        refine wpAnyIn_ready (rs := [0, 2]) (by kernel_rfl) (by simp) ?_
        refine AllReadyIn.cons rfl (fun K hK => ?_) ?_
        · go_simp
          refine hK _ _ ?_
          clear hK K
          refine wpAnyIn_ready (rs := [2]) (by kernel_rfl) (by simp) ?_
          refine AllReadyIn.cons rfl (fun K hK => ?_) ?_
          · rw [if_pos (by rfl)]
            refine wpIn_app _ _ (by rfl) (by rfl) (by rfl) hrun ?_
            refine hK _ _ ?_
            clear hK K
            refine wpAnyIn_ready (rs := [4]) (by kernel_rfl) (by simp) ?_
            refine AllReadyIn.cons rfl (fun K hK => ?_) AllReadyIn.nil
            go_simp
            gi_wp2_with (refine RoundIn.mono (unhide HR) ?_; rintro e A2 ⟨bt, rfl, hp⟩; have HP := hide hp; clear hp)
            refine wpAnyIn_ready (rs := [5]) (by kernel_rfl) (by simp) ?_
            refine AllReadyIn.cons rfl (fun K hK => ?_) AllReadyIn.nil
            go_simp
            refine hK _ _ ?_
            clear hK K
            refine wpAnyIn_done (by kernel_rfl) ?_ _
            exact ⟨rfl, bt, HP, rfl⟩
          exact AllReadyIn.nil
        refine AllReadyIn.cons rfl (fun K hK => ?_) ?_
        · rw [if_pos (by rfl)]
          refine wpIn_app _ _ (by rfl) (by rfl) (by rfl) hrun ?_
          refine hK _ _ ?_
          clear hK K
          refine wpAnyIn_ready (rs := [0]) (by kernel_rfl) (by simp) ?_
          refine AllReadyIn.cons rfl (fun K hK => ?_) ?_
          · go_simp
            refine hK _ _ ?_
            clear hK K
            refine wpAnyIn_ready (rs := [4]) (by kernel_rfl) (by simp) ?_
            refine AllReadyIn.cons rfl (fun K hK => ?_) AllReadyIn.nil
            go_simp
            gi_wp2_with (refine RoundIn.mono (unhide HR) ?_; rintro e A2 ⟨bt, rfl, hp⟩; have HP := hide hp; clear hp)
            refine wpAnyIn_ready (rs := [5]) (by kernel_rfl) (by simp) ?_
            refine AllReadyIn.cons rfl (fun K hK => ?_) AllReadyIn.nil
            go_simp
            refine hK _ _ ?_
            clear hK K
            refine wpAnyIn_done (by kernel_rfl) ?_ _
            exact ⟨rfl, bt, HP, rfl⟩
          exact AllReadyIn.nil
        exact AllReadyIn.nil
      exact AllReadyIn.nil
    exact AllReadyIn.nil
  case cont =>
    rintro e a' A1 ⟨rfl, bt, HP, rfl⟩
    clear z0 z1 z2 z3 z4 z5 z6 z7 k0 k1 k2 k3 k4 k5 k6 k7 c1a c1b c2a hrun hy1 HR
    cases bt with
    | false =>
      have hp : Jx [x0] A1 := by
        rcases unhide HP with ⟨e, -⟩ | ⟨-, h, -⟩
        · cases e
        · exact h
      have HQ := hide hp
      have EP := hide epv
      clear hp HP
      gi_wp2
      refine ⟨_, results_none rfl _ _ _, ⟨_, rfl⟩, .inr ⟨[x0], ⟨1, ?_⟩, unhide HQ⟩⟩
      rw [pts_take1, List.map_cons, List.map_nil, unhide EP]
    | true =>
      obtain ⟨hJ1, hK1⟩ : J [x0] A1 ∧ Kz (Zw w0 W.heap.size bp bv sl.ownBlock) x0.sl.ownBlock A A1 := by
        rcases unhide HP with ⟨-, h⟩ | ⟨e, -⟩
        · exact h
        · cases e
      obtain ⟨hGl, hbpl, hbvl, s0W, s1, s2, sA, hgl1, b0A, hlen, hne, yA⟩ := unhide S
      have npb : ∀ g, x0.sl.ownBlock = some g → W.heap.size + 1 ≤ g := fun g hg => by rw [esl] at hg; have := (hgl1 g hg).1; omega
      have hS1 : WkS w0 W.heap.size bp Bp l ss sl A1 := WkS.kz (X := A) ⟨yA, unhide pA, unhide gA, h0W.trans (b0A.mono s0W)⟩ hK1 (Nat.le_refl _) (fun g hg => by
        have := npb g hg
        exact ⟨by omega, by omega, by omega, fun e => by have := (hGl g e).2; omega⟩)
      have hr1 : A1.rangeAt bv 0 [Value.int IntKind.i64 kd, Value.bool b, Value.int IntKind.i64 m, Value.float FloatKind.f64 f, Value.string tx, Value.string ty, Value.slice ai ni ci, Value.slice af nf cf] := hK1.range (by omega) (.inr (.inr (.inr (.inl rfl)))) (fun e => by have := npb _ e.symm; omega) (unhide xA)
      have sA1 : W.heap.size + 1 ≤ A1.heap.size := Nat.le_trans sA hK1.size
      have HS1 := hide hS1
      have HJ1 := hide hJ1
      have EP := hide epv
      have hB1 := hS1.bel
      obtain ⟨z0, z1, z2, z3, z4, z5, z6, z7⟩ := Row8.eight hr1
      simp only [Nat.zero_add] at z1 z2 z3 z4 z5 z6 z7
      clear HP hK1 hS1 hJ1 pA gA xA yA hgl1 epv GA
      gi_wp2_with (refine ⟨trivial, ?_⟩; gi_at_call 37; refine (children_in Fence.wide _ trivial rfl _ _).mono ?_; rintro e w' ⟨rfl, rfl⟩)
      obtain ⟨A2, eA2⟩ : ∃ A2, A2 = A1.alloc (.cells #[Value.int IntKind.i64 kd, Value.bool b, Value.int IntKind.i64 m, Value.float FloatKind.f64 f, Value.string tx, Value.string ty, Value.slice ai ni ci, Value.slice af nf cf] 27) := ⟨_, rfl⟩
      have b12 : Below A1.heap.size A1 A2 := by rw [eA2]; exact (Below.refl _ _).alloc (Nat.le_refl _) _
      have s12 : A2.heap.size = A1.heap.size + 1 := by rw [eA2]; simp
      have rA2 : A2.rangeAt A1.heap.size 0 [Value.int IntKind.i64 kd, Value.bool b, Value.int IntKind.i64 m, Value.float FloatKind.f64 f, Value.string tx, Value.string ty, Value.slice ai ni ci, Value.slice af nf cf] := fun j x hx => by rw [eA2, Nat.zero_add, World.cell?_alloc_at _ _ _ _ rfl]; simpa using hx
      have HS2 := hide ((unhide HS1).below b12)
      have HJ2 := hide (unhide HJ _ _ _ (unhide HJ1) (Ch.of_below (fun g e => (hGl g e).2) (b12.mono (by omega))))
      have B2 := (unhide HS2).bel
      rw [← eA2]
      clear eA2 HS1 HJ1 z0 z1 z2 z3 z4 z5 z6 z7 hr1 b12
      have HLn := hide hlen
      have hGl' := hide hGl
      have HNe := hide hne
      clear hGl hlen hne
      have hsf2 := hide hsf
      clear hsf
      have hsB2 := B2.size
      refine wpT_H (α := Kid w0 (kids (.mk kd b m f tx ty its fls))) rfl (by omega) (gf := 71) (lb := #[.pointer (some ⟨A1.heap.size, 0, none⟩)]) rfl trivial (enters_of Try.func71 (by kernel_rfl) rfl)
        (C := AbC (A2.heap.size + 2)) (Rd := fun _ _ => True) (Kp := fun _ A A' => Below w0.heap.size A A')
        (fun W1 hb hs => by
          have := kids_T Fence.wide (8 - 1) trivial rfl (by omega) A1.heap.size w0 (.mk kd b m f tx ty its fls) _ (unhide HV) hsm W1 (B2.trans (hb.mono hsB2)) (Row8.below rA2 hb)
          rw [hs] at this
          exact this)
        (fun A B hc k h1 h2 h3 => by obtain ⟨row, hg, hr⟩ := hc; exact hg.block k h3 (fun e => by have := (hr k e.symm).1; omega))
        (fun _ {A B C} h k => h.trans k) (fun _ X o o' _ => ⟨rfl, rfl, rfl, by simp, fun k hk => World.putObj_heap_other (by omega)⟩) (fun _ => rfl)
        (fun pre X => WkS w0 W.heap.size bp Bp l ss sl X ∧ ∃ ys : List (Wel w0), ys.map Wel.pv = (pre.map Kid.sv).flatMap (fun q => pts q.2 (ss ++ [q.1])) ∧ J (x0 :: ys) X)
        (fun c pre X => c = .ret ∧ W.heap.size < X.heap.size ∧ ∃ (ys : List (Wel w0)) (i : Nat), (x0 :: ys).map Wel.pv = (pts (.mk kd b m f tx ty its fls) ss).take i ∧ Jx (x0 :: ys) X)
        (fun pre X Y hs hc => by
          obtain ⟨row, hg, hr⟩ := hc
          obtain ⟨h1, ys, h2, h3⟩ := hs
          exact ⟨h1.grown hg (fun r e => ⟨by have := (hr r e).1; omega, let ⟨o, ho, hw⟩ := (hr r e).2; ⟨o, ho, Obj.not_cells_of_walk hw⟩⟩), ys, h2, unhide HJ _ _ _ h3 (Ch.of_grown (fun g e => (unhide hGl' g e).2) hg (Nat.le_of_lt h1.yb.lt) (fun r e => by have := (hr r e).1; omega))⟩)
        (fun c pre X Y hs hc => by
          obtain ⟨row, hg, hr⟩ := hc
          obtain ⟨rfl, h1, ys, i, h3, h4⟩ := hs
          exact ⟨rfl, Nat.lt_of_lt_of_le h1 hg.size, ys, i, h3, unhide HJx _ _ _ h4 (Ch.of_grown (fun g e => (unhide hGl' g e).2) hg (Nat.le_of_lt h1) (fun r e => by have := (hr r e).1; omega))⟩)
        (fun pre X Y row hs hg hr => by
          obtain ⟨h1, ys, h2, h3⟩ := hs
          exact ⟨h1.grown hg (fun r e => ⟨by have := (hr r e).1; omega, (hr r e).2⟩), ys, h2, unhide HJ _ _ _ h3 (Ch.of_grown (fun g e => (unhide hGl' g e).2) hg (Nat.le_of_lt h1.yb.lt) (fun r e => by have := (hr r e).1; omega))⟩)
        (fun c pre X Y row hs hg hr => by
          obtain ⟨rfl, h1, ys, i, h3, h4⟩ := hs
          exact ⟨rfl, Nat.lt_of_lt_of_le h1 hg.size, ys, i, h3, unhide HJx _ _ _ h4 (Ch.of_grown (fun g e => (unhide hGl' g e).2) hg (Nat.le_of_lt h1) (fun r e => by have := (hr r e).1; omega))⟩)
        ⟨unhide HS2, [], by simp, unhide HJ2⟩
        (fun x a' X => ∃ Bs Bx, Bs < X.heap.size ∧ Bx < X.heap.size ∧ W.heap.size ≤ Bx ∧ X.rangeAt Bs 0 (stC x.1.1) ∧ X.rangeAt Bx 0 x.1.2.2 ∧ a' = { tmps := #[.func (.yield l) #[] #[], .pointer (some ⟨bp, 0, none⟩), .pointer (some ⟨bv, 0, none⟩), .pointer (some ⟨W.heap.size, 0, none⟩), .pointer (some ⟨Bs, 0, none⟩), .pointer (some ⟨Bx, 0, none⟩), undef, undef, .func (.yield l) #[] #[], sl, .slice a1 ss.length c1, .agg #[Value.int IntKind.i64 kd, Value.bool b, Value.int IntKind.i64 m, Value.float FloatKind.f64 f, Value.string tx, Value.string ty, Value.slice ai ni ci, Value.slice af nf cf], .bool true, .bool false, .agg #[Value.int IntKind.i64 kd, Value.bool b, Value.int IntKind.i64 m, Value.float FloatKind.f64 f, Value.string tx, Value.string ty, Value.slice ai ni ci, Value.slice af nf cf], .func (.func 71) #[] #[.pointer (some ⟨A1.heap.size, 0, none⟩)], .agg #[.string x.1.1.nm, .int .i64 x.1.1.ix, .bool x.1.1.it], .agg x.1.2.2.toArray, undef, undef, undef, undef, undef, undef, undef, undef, undef, undef, undef, undef, undef], defers := [] })
        (fun x a' _ X Y row hs hg hr => by obtain ⟨Bs, Bx, h2, h3, hw, h4, h5, h6⟩ := hs; exact ⟨Bs, Bx, Nat.lt_of_lt_of_le h2 hg.size, Nat.lt_of_lt_of_le h3 hg.size, hw, fun j u hu => cell_kept (h4 j u hu) hg (fun r e => (hr r e).2), fun j u hu => cell_kept (h5 j u hu) hg (fun r e => (hr r e).2), h6⟩)
        ?assign ?body ?done ?stop
      case assign =>
        rintro l1 pre x X K ⟨hS, ys, hys, hjy⟩ - - hK
        obtain ⟨⟨s, u, us⟩, hu, hm⟩ := x
        have hu' : VlC w0 u us := hu
        obtain ⟨ukd, ub, um, uf, utx, uty, uits, ufls⟩ := u
        unfold VlC at hu'
        obtain ⟨uai, uni, uci, uaf, unf, ucf, rfl, -⟩ := hu'
        obtain ⟨nm, ix, it⟩ := s
        unfold Kid.enc
        have hsf := unhide hsf2
        have HSx := hide hS
        have HJy := hide hjy
        have HYs := hide hys
        clear hS hjy hys
        gi_wp2
        have hS := unhide HSx
        have sB := hS.bel.size
        have bb : Below X.heap.size X ((X.alloc (.cells #[Value.string nm, Value.int IntKind.i64 ix, Value.bool it] 34)).alloc (.cells #[Value.int IntKind.i64 ukd, Value.bool ub, Value.int IntKind.i64 um, Value.float FloatKind.f64 uf, Value.string utx, Value.string uty, Value.slice uai uni uci, Value.slice uaf unf ucf] 27)) := ((Below.refl _ X).alloc (Nat.le_refl _) _).alloc (by simp) _
        refine hK _ _ (keepsFrom_below bb) (bb.mono sB) ⟨hS.below bb, ys, unhide HYs, unhide HJ _ _ _ (unhide HJy) (Ch.of_below (fun g e => (unhide hGl' g e).2) (bb.mono (Nat.le_of_lt hS.yb.lt)))⟩ ⟨X.heap.size, X.heap.size + 1, by simp; omega, by simp, by have := hS.yb.lt; omega, fun j x hx => ?_, fun j x hx => ?_, rfl⟩
        · rw [Nat.zero_add]
          refine (((Below.refl (X.heap.size + 1) (X.alloc _)).alloc (by simp) _).cell (p := ⟨X.heap.size, j, none⟩) (Nat.lt_succ_self _)).trans ?_
          rw [World.cell?_alloc_at _ _ _ _ rfl]
          simpa [stC] using hx
        · rw [Nat.zero_add, World.cell?_alloc_at _ _ _ _ (by simp)]
          simpa using hx
      case body =>
        rintro l1 pre x a' X0 hl1 ⟨r1, hr1⟩ ⟨hS, ys, hys, hjy⟩ ⟨Bs, Bx, hBs, hBx, hWx, hrs, hrx, rfl⟩ ⟨kk, hpre, hnext⟩
        obtain ⟨⟨s, u, us⟩, hu, hm⟩ := x
        have hu0 : VlC w0 u us := hu
        have hrs : X0.rangeAt Bs 0 (stC s) := hrs
        have hrx : X0.rangeAt Bx 0 us := hrx
        have hnext : (kids (.mk kd b m f tx ty its fls))[kk]? = some (s, u) := hnext
        have IHu := hide (unhide IH (s, u) hm)
        have hcu := cnt_kid hnext
        simp only at hcu
        have hlen := unhide HLn
        have hGl := unhide hGl'
        have hne := unhide HNe
        have hlen2 : (ss ++ [s]).length + cnt u ≤ 1048576 := by rw [List.length_append]; simp; omega
        have sX : W.heap.size < X0.heap.size := hS.yb.lt
        have bd : Below X0.heap.size X0 X0.drew := (Below.refl _ _).drew
        obtain ⟨g, n4, cap, A3, hrun, hG4, hCh0, hat⟩ := ext_run X0.drew 29 (hS.below bd).gr s (show Bp ≤ X0.heap.size by omega) (by omega) X0.heap.size rfl
        have hCh : Ch X0.heap.size sl.ownBlock (ss.length * 3) X0 A3 := (Ch.of_below (fun q e => by have := (hGl q e).2; omega) bd).trans hCh0
        have hat : sl.ownBlock = some g ∨ X0.heap.size ≤ g := hat
        have hg4 := hG4.lt g rfl
        have gne : g ≠ W.heap.size ∧ g ≠ bp ∧ w0.heap.size ≤ g ∧ (sl.ownBlock = some g ∨ X0.heap.size ≤ g) := by
          refine ⟨?_, ?_, by omega, hat⟩ <;> rcases hat with h | h
          · have := (hGl g h).2; omega
          · omega
          · exact (hne g h).1
          · omega
        have hS3 : WkS w0 W.heap.size bp Bp l ss sl A3 := hS.ch hCh ⟨sX, by omega, fun q e => by have := (hGl q e).2; omega, by omega⟩ (fun q e => by have h1 := hGl q e; have h2 := hne q e; exact ⟨by omega, h2.1, by omega⟩) (Nat.le_refl _)
        have hJ3 : J (x0 :: ys) A3 := unhide HJ _ _ _ hjy (hCh.same (Nat.le_of_lt sX) (Nat.le_refl _))
        have hs3 := hCh.size
        have hX0 : ∀ q, q < X0.heap.size → W.heap.size ≤ q → A3.heap[q]? = X0.heap[q]? := fun q h1 h2 => hCh.block q h1 (fun e => by have := (hGl q e.symm).2; omega)
        have hbox := hS.pb
        obtain ⟨ukd, ub, um, uf, utx, uty, uits, ufls⟩ := u
        have hu' := hu0
        unfold VlC at hu'
        obtain ⟨uai, uni, uci, uaf, unf, ucf, rfl, -⟩ := hu'
        obtain ⟨nm, ix, it⟩ := s
        have c0a : X0.drew.cell? ⟨bp, 0, none⟩ = some sl := hbox.cell
        have c0b : (X0.alloc (.cells #[Value.string nm, Value.int IntKind.i64 ix, Value.bool it] 34)).drew.cell? ⟨bp, 0, none⟩ = some sl := Boxed.cell (Boxed.alloc (W := X0) hbox _)
        have d0 : X0.drew.cell? ⟨Bs, 0, none⟩ = some (.string nm) := hrs 0 _ rfl
        have d1 : X0.drew.cell? ⟨Bs, 1, none⟩ = some (.int .i64 ix) := hrs 1 _ rfl
        have d2 : X0.drew.cell? ⟨Bs, 2, none⟩ = some (.bool it) := hrs 2 _ rfl
        have bd1 : Below X0.heap.size X0 (X0.alloc (.cells #[Value.string nm, Value.int IntKind.i64 ix, Value.bool it] 34)).drew := ((Below.refl _ _).alloc (Nat.le_refl _) _).drew
        have rA3 : A3.rangeAt Bx 0 [Value.int IntKind.i64 ukd, Value.bool ub, Value.int IntKind.i64 um, Value.float FloatKind.f64 uf, Value.string utx, Value.string uty, Value.slice uai uni uci, Value.slice uaf unf ucf] := fun j q hq => (cell_blk (hX0 Bx hBx (by omega)) _).trans (hrx j q hq)
        obtain ⟨e0, e1, e2, e3, e4, e5, e6, e7⟩ := Row8.eight (Row8.below hrx bd)
        obtain ⟨f0, f1, f2, f3, f4, f5, f6, f7⟩ := Row8.eight (Row8.below hrx bd1)
        obtain ⟨h0', h1', h2', h3', h4', h5', h6', h7'⟩ := Row8.eight rA3
        simp only [Nat.zero_add] at e1 e2 e3 e4 e5 e6 e7 f1 f2 f3 f4 f5 f6 f7 h1' h2' h3' h4' h5' h6' h7'
        have HU := hide hu0
        have HR1 := hide hr1
        have HT := hide (And.intro hG4 (And.intro hCh (And.intro gne (And.intro hS3 (And.intro hJ3 (And.intro hX0 (And.intro hlen2 (And.intro hpre (And.intro hnext (And.intro hys hS))))))))))
        have HN := hide (And.intro hGl (And.intro hne (And.intro hs3 (And.intro hg4 (And.intro sX hlen)))))
        clear hu0 hr1 hG4 hCh gne hS3 hJ3 hX0 hlen2 hpre hnext hys hS hGl hne hs3 hg4 hlen hCh0 hat hbox rA3 bd bd1 hrs hrx hcu hjy
        have hsf := unhide hsf2
        gi_wp2_with fail
        obtain ⟨X3, eX3⟩ : ∃ X3, X3 = (A3.alloc (.cells #[Value.slice (some ⟨g, 0, none⟩) n4 cap] 29)).alloc (.cells #[Value.int IntKind.i64 ukd, Value.bool ub, Value.int IntKind.i64 um, Value.float FloatKind.f64 uf, Value.string utx, Value.string uty, Value.slice uai uni uci, Value.slice uaf unf ucf] 27) := ⟨_, rfl⟩
        refine wpIn_mono (Q := fun e a' w' => e = .normal ∧ w' = X3 ∧ a' = { tmps := #[.func (.yield l) #[] #[], .pointer (some ⟨bp, 0, none⟩), .pointer (some ⟨bv, 0, none⟩), .pointer (some ⟨W.heap.size, 0, none⟩), .pointer (some ⟨Bs, 0, none⟩), .pointer (some ⟨Bx, 0, none⟩), undef, undef, .func (.yield l) #[] #[], sl, .slice a1 ss.length c1, .agg #[Value.int IntKind.i64 kd, Value.bool b, Value.int IntKind.i64 m, Value.float FloatKind.f64 f, Value.string tx, Value.string ty, Value.slice ai ni ci, Value.slice af nf cf], .bool true, .bool false, .agg #[Value.int IntKind.i64 kd, Value.bool b, Value.int IntKind.i64 m, Value.float FloatKind.f64 f, Value.string tx, Value.string ty, Value.slice ai ni ci, Value.slice af nf cf], .func (.func 71) #[] #[.pointer (some ⟨A1.heap.size, 0, none⟩)], .agg #[.string nm, .int .i64 ix, .bool it], .agg #[Value.int IntKind.i64 ukd, Value.bool ub, Value.int IntKind.i64 um, Value.float FloatKind.f64 uf, Value.string utx, Value.string uty, Value.slice uai uni uci, Value.slice uaf unf ucf], sl, .agg #[.string nm, .int .i64 ix, .bool it], .slice (some ⟨X0.heap.size, 0, none⟩) 1 1, .slice (some ⟨g, 0, none⟩) n4 cap, .agg #[Value.int IntKind.i64 ukd, Value.bool ub, Value.int IntKind.i64 um, Value.float FloatKind.f64 uf, Value.string utx, Value.string uty, Value.slice uai uni uci, Value.slice uaf unf ucf], .func (.func 56) #[] #[.pointer (some ⟨A3.heap.size, 0, none⟩), .pointer (some ⟨A3.heap.size + 1, 0, none⟩)], undef, undef, undef, undef, undef, undef, undef], defers := [] }) ?reg5 ?cont5
        case reg5 =>
          refine wpIn_region_any mixed ?_
          change wpAnyIn _ _ _ _ _ _ _ _ _ (World.drew _)
          refine wpAnyIn_ready (rs := [0, 1, 4]) (by kernel_rfl) (by simp) ?_
          refine AllReadyIn.cons rfl (fun K hK => ?_) ?_
          · go_simp
            refine hK _ _ ?_
            clear hK K
            refine wpAnyIn_ready (rs := [1, 4]) (by kernel_rfl) (by simp) ?_
            refine AllReadyIn.cons rfl (fun K hK => ?_) ?_
            · go_simp
              refine hK _ _ ?_
              clear hK K
              refine wpAnyIn_ready (rs := [2, 4]) (by kernel_rfl) (by simp) ?_
              refine AllReadyIn.cons rfl (fun K hK => ?_) ?_
              · go_simp
                refine hK _ _ ?_
                clear hK K
                refine wpAnyIn_ready (rs := [3, 4]) (by kernel_rfl) (by simp) ?_
                refine AllReadyIn.cons rfl (fun K hK => ?_) ?_
                · rw [if_pos (by rfl)]
                  refine wpIn_app _ _ (by rfl) (by rfl) (by rfl) hrun ?_
                  refine hK _ _ ?_
                  clear hK K
                  refine wpAnyIn_ready (rs := [4]) (by kernel_rfl) (by simp) ?_
                  refine AllReadyIn.cons rfl (fun K hK => ?_) ?_
                  · go_simp
                    refine hK _ _ ?_
                    clear hK K
                    refine wpAnyIn_ready (rs := [5]) (by kernel_rfl) (by simp) ?_
                    refine AllReadyIn.cons rfl (fun K hK => ?_) AllReadyIn.nil
                    go_simp
                    refine ⟨trivial, ?_⟩
                    refine (CallsIn.inRound l1 (walkFrom_in Fence.wide _ trivial rfl _ _ _ [Value.int IntKind.i64 ukd, Value.bool ub, Value.int IntKind.i64 um, Value.float FloatKind.f64 uf, Value.string utx, Value.string uty, Value.slice uai uni uci, Value.slice uaf unf ucf] _)).mono ?_
                    rintro e w3 ⟨rfl, rfl⟩
                    refine hK _ _ ?_
                    clear hK K
                    refine wpAnyIn_done (by kernel_rfl) ?_ _
                    exact ⟨rfl, eX3.symm, rfl⟩
                  exact AllReadyIn.nil
                refine AllReadyIn.cons rfl (fun K hK => ?_) ?_
                · go_simp
                  refine hK _ _ ?_
                  clear hK K
                  refine wpAnyIn_ready (rs := [3]) (by kernel_rfl) (by simp) ?_
                  refine AllReadyIn.cons rfl (fun K hK => ?_) ?_
                  · rw [if_pos (by rfl)]
                    refine wpIn_app _ _ (by rfl) (by rfl) (by rfl) hrun ?_
                    refine hK _ _ ?_
                    clear hK K
                    refine wpAnyIn_ready (rs := [5]) (by kernel_rfl) (by simp) ?_
                    refine AllReadyIn.cons rfl (fun K hK => ?_) AllReadyIn.nil
                    go_simp
                    refine ⟨trivial, ?_⟩
                    refine (CallsIn.inRound l1 (walkFrom_in Fence.wide _ trivial rfl _ _ _ [Value.int IntKind.i64 ukd, Value.bool ub, Value.int IntKind.i64 um, Value.float FloatKind.f64 uf, Value.string utx, Value.string uty, Value.slice uai uni uci, Value.slice uaf unf ucf] _)).mono ?_
                    rintro e w3 ⟨rfl, rfl⟩
                    refine hK _ _ ?_
                    clear hK K
                    refine wpAnyIn_done (by kernel_rfl) ?_ _
                    exact ⟨rfl, eX3.symm, rfl⟩
                  exact AllReadyIn.nil
                exact AllReadyIn.nil
              refine AllReadyIn.cons rfl (fun K hK => ?_) ?_
              · go_simp
                refine hK _ _ ?_
                clear hK K
                refine wpAnyIn_ready (rs := [2]) (by kernel_rfl) (by simp) ?_
                refine AllReadyIn.cons rfl (fun K hK => ?_) ?_
                · go_simp
                  refine hK _ _ ?_
                  clear hK K
                  refine wpAnyIn_ready (rs := [3]) (by kernel_rfl) (by simp) ?_
                  refine AllReadyIn.cons rfl (fun K hK => ?_) ?_
                  · rw [if_pos (by rfl)]
                    refine wpIn_app _ _ (by rfl) (by rfl) (by rfl) hrun ?_
                    refine hK _ _ ?_
                    clear hK K
                    refine wpAnyIn_ready (rs := [5]) (by kernel_rfl) (by simp) ?_
                    refine AllReadyIn.cons rfl (fun K hK => ?_) AllReadyIn.nil
                    go_simp
                    refine ⟨trivial, ?_⟩
                    refine (CallsIn.inRound l1 (walkFrom_in Fence.wide _ trivial rfl _ _ _ [Value.int IntKind.i64 ukd, Value.bool ub, Value.int IntKind.i64 um, Value.float FloatKind.f64 uf, Value.string utx, Value.string uty, Value.slice uai uni uci, Value.slice uaf unf ucf] _)).mono ?_
                    rintro e w3 ⟨rfl, rfl⟩
                    refine hK _ _ ?_
                    clear hK K
                    refine wpAnyIn_done (by kernel_rfl) ?_ _
                    exact ⟨rfl, eX3.symm, rfl⟩
                  exact AllReadyIn.nil
                exact AllReadyIn.nil
              exact AllReadyIn.nil
            refine AllReadyIn.cons rfl (fun K hK => ?_) ?_
            · go_simp
              refine hK _ _ ?_
              clear hK K
              refine wpAnyIn_ready (rs := [1]) (by kernel_rfl) (by simp) ?_
              refine AllReadyIn.cons rfl (fun K hK => ?_) ?_
              · go_simp
                refine hK _ _ ?_
                clear hK K
                refine wpAnyIn_ready (rs := [2]) (by kernel_rfl) (by simp) ?_
                refine AllReadyIn.cons rfl (fun K hK => ?_) ?_
                · go_simp
                  refine hK _ _ ?_
                  clear hK K
                  refine wpAnyIn_ready (rs := [3]) (by kernel_rfl) (by simp) ?_
                  refine AllReadyIn.cons rfl (fun K hK => ?_) ?_
                  · rw [if_pos (by rfl)]
                    refine wpIn_app _ _ (by rfl) (by rfl) (by rfl) hrun ?_
                    refine hK _ _ ?_
                    clear hK K
                    refine wpAnyIn_ready (rs := [5]) (by kernel_rfl) (by simp) ?_
                    refine AllReadyIn.cons rfl (fun K hK => ?_) AllReadyIn.nil
                    go_simp
                    refine ⟨trivial, ?_⟩
                    refine (CallsIn.inRound l1 (walkFrom_in Fence.wide _ trivial rfl _ _ _ [Value.int IntKind.i64 ukd, Value.bool ub, Value.int IntKind.i64 um, Value.float FloatKind.f64 uf, Value.string utx, Value.string uty, Value.slice uai uni uci, Value.slice uaf unf ucf] _)).mono ?_
                    rintro e w3 ⟨rfl, rfl⟩
                    refine hK _ _ ?_
                    clear hK K
                    refine wpAnyIn_done (by kernel_rfl) ?_ _
                    exact ⟨rfl, eX3.symm, rfl⟩
                  exact AllReadyIn.nil
                exact AllReadyIn.nil
              exact AllReadyIn.nil
            exact AllReadyIn.nil
          refine AllReadyIn.cons rfl (fun K hK => ?_) ?_
          · go_simp
            refine hK _ _ ?_
            clear hK K
            refine wpAnyIn_ready (rs := [0, 2, 4]) (by kernel_rfl) (by simp) ?_
            refine AllReadyIn.cons rfl (fun K hK => ?_) ?_
            · go_simp
              refine hK _ _ ?_
              clear hK K
              refine wpAnyIn_ready (rs := [2, 4]) (by kernel_rfl) (by simp) ?_
              refine AllReadyIn.cons rfl (fun K hK => ?_) ?_
              · go_simp
                refine hK _ _ ?_
                clear hK K
                refine wpAnyIn_ready (rs := [3, 4]) (by kernel_rfl) (by simp) ?_
                refine AllReadyIn.cons rfl (fun K hK => ?_) ?_
                · rw [if_pos (by rfl)]
                  refine wpIn_app _ _ (by rfl) (by rfl) (by rfl) hrun ?_
                  refine hK _ _ ?_
                  clear hK K
                  refine wpAnyIn_ready (rs := [4]) (by kernel_rfl) (by simp) ?_
                  refine AllReadyIn.cons rfl (fun K hK => ?_) ?_
                  · go_simp
                    refine hK _ _ ?_
                    clear hK K
                    refine wpAnyIn_ready (rs := [5]) (by kernel_rfl) (by simp) ?_
                    refine AllReadyIn.cons rfl (fun K hK => ?_) AllReadyIn.nil
                    go_simp
                    refine ⟨trivial, ?_⟩
                    refine (CallsIn.inRound l1 (walkFrom_in Fence.wide _ trivial rfl _ _ _ [Value.int IntKind.i64 ukd, Value.bool ub, Value.int IntKind.i64 um, Value.float FloatKind.f64 uf, Value.string utx, Value.string uty, Value.slice uai uni uci, Value.slice uaf unf ucf] _)).mono ?_
                    rintro e w3 ⟨rfl, rfl⟩
                    refine hK _ _ ?_
                    clear hK K
                    refine wpAnyIn_done (by kernel_rfl) ?_ _
                    exact ⟨rfl, eX3.symm, rfl⟩
                  exact AllReadyIn.nil
                refine AllReadyIn.cons rfl (fun K hK => ?_) ?_
                · go_simp
                  refine hK _ _ ?_
                  clear hK K
                  refine wpAnyIn_ready (rs := [3]) (by kernel_rfl) (by simp) ?_
                  refine AllReadyIn.cons rfl (fun K hK => ?_) ?_
                  · rw [if_pos (by rfl)]
                    refine wpIn_app _ _ (by rfl) (by rfl) (by rfl) hrun ?_
                    refine hK _ _ ?_
                    clear hK K
                    refine wpAnyIn_ready (rs := [5]) (by kernel_rfl) (by simp) ?_
                    refine AllReadyIn.cons rfl (fun K hK => ?_) AllReadyIn.nil
                    go_simp
                    refine ⟨trivial, ?_⟩
                    refine (CallsIn.inRound l1 (walkFrom_in Fence.wide _ trivial rfl _ _ _ [Value.int IntKind.i64 ukd, Value.bool ub, Value.int IntKind.i64 um, Value.float FloatKind.f64 uf, Value.string utx, Value.string uty, Value.slice uai uni uci, Value.slice uaf unf ucf] _)).mono ?_
                    rintro e w3 ⟨rfl, rfl⟩
                    refine hK _ _ ?_
                    clear hK K
                    refine wpAnyIn_done (by kernel_rfl) ?_ _
                    exact ⟨rfl, eX3.symm, rfl⟩
                  exact AllReadyIn.nil
                exact AllReadyIn.nil
              refine AllReadyIn.cons rfl (fun K hK => ?_) ?_
              · go_simp
                refine hK _ _ ?_
                clear hK K
                refine wpAnyIn_ready (rs := [2]) (by kernel_rfl) (by simp) ?_
                refine AllReadyIn.cons rfl (fun K hK => ?_) ?_
                · go_simp
                  refine hK _ _ ?_
                  clear hK K
                  refine wpAnyIn_ready (rs := [3]) (by kernel_rfl) (by simp) ?_
                  refine AllReadyIn.cons rfl (fun K hK => ?_) ?_
                  · rw [if_pos (by rfl)]
                    refine wpIn_app _ _ (by rfl) (by rfl) (by rfl) hrun ?_
                    refine hK _ _ ?_
                    clear hK K
                    refine wpAnyIn_ready (rs := [5]) (by kernel_rfl) (by simp) ?_
                    refine AllReadyIn.cons rfl (fun K hK => ?_) AllReadyIn.nil
                    go_simp
                    refine ⟨trivial, ?_⟩
                    refine (CallsIn.inRound l1 (walkFrom_in Fence.wide _ trivial rfl _ _ _ [Value.int IntKind.i64 ukd, Value.bool ub, Value.int IntKind.i64 um, Value.float FloatKind.f64 uf, Value.string utx, Value.string uty, Value.slice uai uni uci, Value.slice uaf unf ucf] _)).mono ?_
                    rintro e w3 ⟨rfl, rfl⟩
                    refine hK _ _ ?_
                    clear hK K
                    refine wpAnyIn_done (by kernel_rfl) ?_ _
                    exact ⟨rfl, eX3.symm, rfl⟩
                  exact AllReadyIn.nil
                exact AllReadyIn.nil
              exact AllReadyIn.nil
            refine AllReadyIn.cons rfl (fun K hK => ?_) ?_
            · go_simp
              refine hK _ _ ?_
              clear hK K
              refine wpAnyIn_ready (rs := [0, 4]) (by kernel_rfl) (by simp) ?_
              refine AllReadyIn.cons rfl (fun K hK => ?_) ?_
              · go_simp
                refine hK _ _ ?_
                clear hK K
                refine wpAnyIn_ready (rs := [3, 4]) (by kernel_rfl) (by simp) ?_
                refine AllReadyIn.cons rfl (fun K hK => ?_) ?_
                · rw [if_pos (by rfl)]
                  refine wpIn_app _ _ (by rfl) (by rfl) (by rfl) hrun ?_
                  refine hK _ _ ?_
                  clear hK K
                  refine wpAnyIn_ready (rs := [4]) (by kernel_rfl) (by simp) ?_
                  refine AllReadyIn.cons rfl (fun K hK => ?_) ?_
                  · go_simp
                    refine hK _ _ ?_
                    clear hK K
                    refine wpAnyIn_ready (rs := [5]) (by kernel_rfl) (by simp) ?_
                    refine AllReadyIn.cons rfl (fun K hK => ?_) AllReadyIn.nil
                    go_simp
                    refine ⟨trivial, ?_⟩
                    refine (CallsIn.inRound l1 (walkFrom_in Fence.wide _ trivial rfl _ _ _ [Value.int IntKind.i64 ukd, Value.bool ub, Value.int IntKind.i64 um, Value.float FloatKind.f64 uf, Value.string utx, Value.string uty, Value.slice uai uni uci, Value.slice uaf unf ucf] _)).mono ?_
                    rintro e w3 ⟨rfl, rfl⟩
                    refine hK _ _ ?_
                    clear hK K
                    refine wpAnyIn_done (by kernel_rfl) ?_ _
                    exact ⟨rfl, eX3.symm, rfl⟩
                  exact AllReadyIn.nil
                refine AllReadyIn.cons rfl (fun K hK => ?_) ?_
                · go_simp
                  refine hK _ _ ?_
                  clear hK K
                  refine wpAnyIn_ready (rs := [3]) (by kernel_rfl) (by simp) ?_
                  refine AllReadyIn.cons rfl (fun K hK => ?_) ?_
                  · rw [if_pos (by rfl)]
                    refine wpIn_app _ _ (by rfl) (by rfl) (by rfl) hrun ?_
                    refine hK _ _ ?_
                    clear hK K
                    refine wpAnyIn_ready (rs := [5]) (by kernel_rfl) (by simp) ?_
                    refine AllReadyIn.cons rfl (fun K hK => ?_) AllReadyIn.nil
                    go_simp
                    refine ⟨trivial, ?_⟩
                    refine (CallsIn.inRound l1 (walkFrom_in Fence.wide _ trivial rfl _ _ _ [Value.int IntKind.i64 ukd, Value.bool ub, Value.int IntKind.i64 um, Value.float FloatKind.f64 uf, Value.string utx, Value.string uty, Value.slice uai uni uci, Value.slice uaf unf ucf] _)).mono ?_
                    rintro e w3 ⟨rfl, rfl⟩
                    refine hK _ _ ?_
                    clear hK K
                    refine wpAnyIn_done (by kernel_rfl) ?_ _
                    exact ⟨rfl, eX3.symm, rfl⟩
                  exact AllReadyIn.nil
                exact AllReadyIn.nil
              refine AllReadyIn.cons rfl (fun K hK => ?_) ?_
              · go_simp
                refine hK _ _ ?_
                clear hK K
                refine wpAnyIn_ready (rs := [0]) (by kernel_rfl) (by simp) ?_
                refine AllReadyIn.cons rfl (fun K hK => ?_) ?_
                · go_simp
                  refine hK _ _ ?_
                  clear hK K
                  refine wpAnyIn_ready (rs := [3]) (by kernel_rfl) (by simp) ?_
                  refine AllReadyIn.cons rfl (fun K hK => ?_) ?_
                  · rw [if_pos (by rfl)]
                    refine wpIn_app _ _ (by rfl) (by rfl) (by rfl) hrun ?_
                    refine hK _ _ ?_
                    clear hK K
                    refine wpAnyIn_ready (rs := [5]) (by kernel_rfl) (by simp) ?_
                    refine AllReadyIn.cons rfl (fun K hK => ?_) AllReadyIn.nil
                    go_simp
                    refine ⟨trivial, ?_⟩
                    refine (CallsIn.inRound l1 (walkFrom_in Fence.wide _ trivial rfl _ _ _ [Value.int IntKind.i64 ukd, Value.bool ub, Value.int IntKind.i64 um, Value.float FloatKind.f64 uf, Value.string utx, Value.string uty, Value.slice uai uni uci, Value.slice uaf unf ucf] _)).mono ?_
                    rintro e w3 ⟨rfl, rfl⟩
                    refine hK _ _ ?_
                    clear hK K
                    refine wpAnyIn_done (by kernel_rfl) ?_ _
                    exact ⟨rfl, eX3.symm, rfl⟩
                  exact AllReadyIn.nil
                exact AllReadyIn.nil
              exact AllReadyIn.nil
            refine AllReadyIn.cons rfl (fun K hK => ?_) ?_
            · go_simp
              refine hK _ _ ?_
              clear hK K
              refine wpAnyIn_ready (rs := [0, 2]) (by kernel_rfl) (by simp) ?_
              refine AllReadyIn.cons rfl (fun K hK => ?_) ?_
              · go_simp
                refine hK _ _ ?_
                clear hK K
                refine wpAnyIn_ready (rs := [2]) (by kernel_rfl) (by simp) ?_
                refine AllReadyIn.cons rfl (fun K hK => ?_) ?_
                · go_simp
                  refine hK _ _ ?_
                  clear hK K
                  refine wpAnyIn_ready (rs := [3]) (by kernel_rfl) (by simp) ?_
                  refine AllReadyIn.cons rfl (fun K hK => ?_) ?_
                  · rw [if_pos (by rfl)]
                    refine wpIn_app _ _ (by rfl) (by rfl) (by rfl) hrun ?_
                    refine hK _ _ ?_
                    clear hK K
                    refine wpAnyIn_ready (rs := [5]) (by kernel_rfl) (by simp) ?_
                    refine AllReadyIn.cons rfl (fun K hK => ?_) AllReadyIn.nil
                    go_simp
                    refine ⟨trivial, ?_⟩
                    refine (CallsIn.inRound l1 (walkFrom_in Fence.wide _ trivial rfl _ _ _ [Value.int IntKind.i64 ukd, Value.bool ub, Value.int IntKind.i64 um, Value.float FloatKind.f64 uf, Value.string utx, Value.string uty, Value.slice uai uni uci, Value.slice uaf unf ucf] _)).mono ?_
                    rintro e w3 ⟨rfl, rfl⟩
                    refine hK _ _ ?_
                    clear hK K
                    refine wpAnyIn_done (by kernel_rfl) ?_ _
                    exact ⟨rfl, eX3.symm, rfl⟩
                  exact AllReadyIn.nil
                exact AllReadyIn.nil
              refine AllReadyIn.cons rfl (fun K hK => ?_) ?_
              · go_simp
                refine hK _ _ ?_
                clear hK K
                refine wpAnyIn_ready (rs := [0]) (by kernel_rfl) (by simp) ?_
                refine AllReadyIn.cons rfl (fun K hK => ?_) ?_
                · go_simp
                  refine hK _ _ ?_
                  clear hK K
                  refine wpAnyIn_ready (rs := [3]) (by kernel_rfl) (by simp) ?_
                  refine AllReadyIn.cons rfl (fun K hK => ?_) ?_
                  · rw [if_pos (by rfl)]
                    refine wpIn_app _ _ (by rfl) (by rfl) (by rfl) hrun ?_
                    refine hK _ _ ?_
                    clear hK K
                    refine wpAnyIn_ready (rs := [5]) (by kernel_rfl) (by simp) ?_
                    refine AllReadyIn.cons rfl (fun K hK => ?_) AllReadyIn.nil
                    go_simp
                    refine ⟨trivial, ?_⟩
                    refine (CallsIn.inRound l1 (walkFrom_in Fence.wide _ trivial rfl _ _ _ [Value.int IntKind.i64 ukd, Value.bool ub, Value.int IntKind.i64 um, Value.float FloatKind.f64 uf, Value.string utx, Value.string uty, Value.slice uai uni uci, Value.slice uaf unf ucf] _)).mono ?_
                    rintro e w3 ⟨rfl, rfl⟩
                    refine hK _ _ ?_
                    clear hK K
                    refine wpAnyIn_done (by kernel_rfl) ?_ _
                    exact ⟨rfl, eX3.symm, rfl⟩
                  exact AllReadyIn.nil
                exact AllReadyIn.nil
              exact AllReadyIn.nil
            exact AllReadyIn.nil
          refine AllReadyIn.cons rfl (fun K hK => ?_) ?_
          · go_simp
            refine hK _ _ ?_
            clear hK K
            refine wpAnyIn_ready (rs := [0, 1]) (by kernel_rfl) (by simp) ?_
            refine AllReadyIn.cons rfl (fun K hK => ?_) ?_
            · go_simp
              refine hK _ _ ?_
              clear hK K
              refine wpAnyIn_ready (rs := [1]) (by kernel_rfl) (by simp) ?_
              refine AllReadyIn.cons rfl (fun K hK => ?_) ?_
              · go_simp
                refine hK _ _ ?_
                clear hK K
                refine wpAnyIn_ready (rs := [2]) (by kernel_rfl) (by simp) ?_
                refine AllReadyIn.cons rfl (fun K hK => ?_) ?_
                · go_simp
                  refine hK _ _ ?_
                  clear hK K
                  refine wpAnyIn_ready (rs := [3]) (by kernel_rfl) (by simp) ?_
                  refine AllReadyIn.cons rfl (fun K hK => ?_) ?_
                  · rw [if_pos (by rfl)]
                    refine wpIn_app _ _ (by rfl) (by rfl) (by rfl) hrun ?_
                    refine hK _ _ ?_
                    clear hK K
                    refine wpAnyIn_ready (rs := [5]) (by kernel_rfl) (by simp) ?_
                    refine AllReadyIn.cons rfl (fun K hK => ?_) AllReadyIn.nil
                    go_simp
                    refine ⟨trivial, ?_⟩
                    refine (CallsIn.inRound l1 (walkFrom_in Fence.wide _ trivial rfl _ _ _ [Value.int IntKind.i64 ukd, Value.bool ub, Value.int IntKind.i64 um, Value.float FloatKind.f64 uf, Value.string utx, Value.string uty, Value.slice uai uni uci, Value.slice uaf unf ucf] _)).mono ?_
                    rintro e w3 ⟨rfl, rfl⟩
                    refine hK _ _ ?_
                    clear hK K
                    refine wpAnyIn_done (by kernel_rfl) ?_ _
                    exact ⟨rfl, eX3.symm, rfl⟩
                  exact AllReadyIn.nil
                exact AllReadyIn.nil
              exact AllReadyIn.nil
            refine AllReadyIn.cons rfl (fun K hK => ?_) ?_
            · go_simp
              refine hK _ _ ?_
              clear hK K
              refine wpAnyIn_ready (rs := [0, 2]) (by kernel_rfl) (by simp) ?_
              refine AllReadyIn.cons rfl (fun K hK => ?_) ?_
              · go_simp
                refine hK _ _ ?_
                clear hK K
                refine wpAnyIn_ready (rs := [2]) (by kernel_rfl) (by simp) ?_
                refine AllReadyIn.cons rfl (fun K hK => ?_) ?_
                · go_simp
                  refine hK _ _ ?_
                  clear hK K
                  refine wpAnyIn_ready (rs := [3]) (by kernel_rfl) (by simp) ?_
                  refine AllReadyIn.cons rfl (fun K hK => ?_) ?_
                  · rw [if_pos (by rfl)]
                    refine wpIn_app _ _ (by rfl) (by rfl) (by rfl) hrun ?_
                    refine hK _ _ ?_
                    clear hK K
                    refine wpAnyIn_ready (rs := [5]) (by kernel_rfl) (by simp) ?_
                    refine AllReadyIn.cons rfl (fun K hK => ?_) AllReadyIn.nil
                    go_simp
                    refine ⟨trivial, ?_⟩
                    refine (CallsIn.inRound l1 (walkFrom_in Fence.wide _ trivial rfl _ _ _ [Value.int IntKind.i64 ukd, Value.bool ub, Value.int IntKind.i64 um, Value.float FloatKind.f64 uf, Value.string utx, Value.string uty, Value.slice uai uni uci, Value.slice uaf unf ucf] _)).mono ?_
                    rintro e w3 ⟨rfl, rfl⟩
                    refine hK _ _ ?_
                    clear hK K
                    refine wpAnyIn_done (by kernel_rfl) ?_ _
                    exact ⟨rfl, eX3.symm, rfl⟩
                  exact AllReadyIn.nil
                exact AllReadyIn.nil
              refine AllReadyIn.cons rfl (fun K hK => ?_) ?_
              · go_simp
                refine hK _ _ ?_
                clear hK K
                refine wpAnyIn_ready (rs := [0]) (by kernel_rfl) (by simp) ?_
                refine AllReadyIn.cons rfl (fun K hK => ?_) ?_
                · go_simp
                  refine hK _ _ ?_
                  clear hK K
                  refine wpAnyIn_ready (rs := [3]) (by kernel_rfl) (by simp) ?_
                  refine AllReadyIn.cons rfl (fun K hK => ?_) ?_
                  · rw [if_pos (by rfl)]
                    refine wpIn_app _ _ (by rfl) (by rfl) (by rfl) hrun ?_
                    refine hK _ _ ?_
                    clear hK K
                    refine wpAnyIn_ready (rs := [5]) (by kernel_rfl) (by simp) ?_
                    refine AllReadyIn.cons rfl (fun K hK => ?_) AllReadyIn.nil
                    go_simp
                    refine ⟨trivial, ?_⟩
                    refine (CallsIn.inRound l1 (walkFrom_in Fence.wide _ trivial rfl _ _ _ [Value.int IntKind.i64 ukd, Value.bool ub, Value.int IntKind.i64 um, Value.float FloatKind.f64 uf, Value.string utx, Value.string uty, Value.slice uai uni uci, Value.slice uaf unf ucf] _)).mono ?_
                    rintro e w3 ⟨rfl, rfl⟩
                    refine hK _ _ ?_
                    clear hK K
                    refine wpAnyIn_done (by kernel_rfl) ?_ _
                    exact ⟨rfl, eX3.symm, rfl⟩
                  exact AllReadyIn.nil
                exact AllReadyIn.nil
              exact AllReadyIn.nil
            exact AllReadyIn.nil
          exact AllReadyIn.nil
        case cont5 =>
          rintro e a' w' ⟨rfl, rfl, rfl⟩
          clear c0a c0b d0 d1 d2 e0 e1 e2 e3 e4 e5 e6 e7 f0 f1 f2 f3 f4 f5 f6 f7 h0' h1' h2' h3' h4' h5' h6' h7' hrun
          obtain ⟨hG4, hCh, gne, hS3, hJ3, hX0, hlen2, hpre, hnext, hys, hS⟩ := unhide HT
          obtain ⟨hGl, hne, hs3, hg4, sX, hlen⟩ := unhide HN
          have b3X : Below A3.heap.size A3 w' := by rw [eX3]; exact ((Below.refl _ _).alloc (Nat.le_refl _) _).alloc (by simp) _
          have s3X : w'.heap.size = A3.heap.size + 2 := by rw [eX3]; simp
          have bxp : Boxed w' A3.heap.size 29 (.slice (some ⟨g, 0, none⟩) n4 cap) := by rw [eX3]; exact (Boxed.new _ _ _).alloc _
          have rxv : w'.rangeAt (A3.heap.size + 1) 0 [Value.int IntKind.i64 ukd, Value.bool ub, Value.int IntKind.i64 um, Value.float FloatKind.f64 uf, Value.string utx, Value.string uty, Value.slice uai uni uci, Value.slice uaf unf ucf] := fun j q hq => by
            rw [eX3, Nat.zero_add, World.cell?_alloc_at _ _ _ _ (by simp)]
            simpa using hq
          have S3X := hS3.below b3X
          have J3X : J (x0 :: ys) w' := unhide HJ _ _ _ hJ3 (Ch.of_below (fun q e => (hGl q e).2) (b3X.mono (by omega)))
          have G4X : GrS Bp (ss ++ [(⟨nm, ix, it⟩ : St)]) (.slice (some ⟨g, 0, none⟩) n4 cap) w' := Ch.grs_far (Ch.of_below (G := none) (m := 0) (fun g e => by cases e) b3X) (fun q hq => ⟨(hG4.lt q hq).2, by simp⟩) hG4
          have K3X : KeepsFrom A2.heap.size X0 w' := ⟨by omega, fun k o hk h0 ho => by
            have hlt := (Array.getElem?_eq_some_iff.1 h0).1
            exact ((b3X.block k (by omega)).trans (hX0 k hlt (by omega))).trans h0⟩
          have l1X : w'.heap[l1]? = some (.loop r1) := K3X.same l1 _ hl1 (unhide HR1) rfl
          have gcase := gne.2.2.2
          have gW : ∀ q, q = g → q < X0.heap.size → q < W.heap.size := fun q e hq => by
            subst e
            rcases gcase with h | h
            · exact (hGl _ h).2
            · omega
          have chout : ∀ A B, Ch (w'.heap.size + 1) (some g) ((ss ++ [(⟨nm, ix, it⟩ : St)]).length * 3) A B → Ch W.heap.size sl.ownBlock (ss.length * 3) A B := fun A B hc => by
            rcases gcase with h | h
            · rw [h]; exact hc.same (by omega) (by rw [List.length_append]; omega)
            · exact hc.outer (by omega) (fun q e => (hGl q e).2) (fun q e => by cases e; omega)
          have kpCh : ∀ A B, KeepsFrom A2.heap.size X0 A → Ch (w'.heap.size + 1) (some g) ((ss ++ [(⟨nm, ix, it⟩ : St)]).length * 3) A B → KeepsFrom A2.heap.size X0 B := fun A B hk hc => ⟨Nat.le_trans hk.size hc.size, fun k o h1 h0 ho => by
            have hlt := (Array.getElem?_eq_some_iff.1 h0).1
            refine (hc.block k (by omega) (fun e => ?_)).trans (hk.same k o h1 h0 ho)
            cases e
            have := gW g rfl hlt
            omega⟩
          have wkCh : ∀ A B, WkS w0 W.heap.size bp Bp l ss sl A → Ch (w'.heap.size + 1) (some g) ((ss ++ [(⟨nm, ix, it⟩ : St)]).length * 3) A B → WkS w0 W.heap.size bp Bp l ss sl B := fun A B hk hc =>
            hk.ch hc ⟨by omega, by omega, fun q e => by have := (hGl q e).2; omega, by omega⟩ (fun q e => by cases e; exact ⟨gne.1, gne.2.1, gne.2.2.1⟩) (by rw [List.length_append]; omega)
          have wkGr : ∀ (A B : World) (row : Option Nat), WkS w0 W.heap.size bp Bp l ss sl A → A.grownBy B row → (∀ r, row = some r → w'.heap.size ≤ r ∧ ∃ o : Obj, A.heap[r]? = some o ∧ o.isCells = false) → WkS w0 W.heap.size bp Bp l ss sl B := fun A B row hk hg hr =>
            hk.grown hg (fun r e => ⟨by have := (hr r e).1; omega, (hr r e).2⟩)
          have kpGr : ∀ (A B : World) (row : Option Nat), KeepsFrom A2.heap.size X0 A → A.grownBy B row → (∀ r, row = some r → w'.heap.size ≤ r ∧ ∃ o : Obj, A.heap[r]? = some o ∧ o.isCells = false) → KeepsFrom A2.heap.size X0 B := fun A B row hk hg hr => ⟨Nat.le_trans hk.size hg.size, fun k o h1 h0 ho => by
            have hlt := (Array.getElem?_eq_some_iff.1 h0).1
            have hA := hk.same k o h1 h0 ho
            exact (hg.block k (Array.getElem?_eq_some_iff.1 hA).1 (fun e => by have := (hr k e.symm).1; omega)).trans hA⟩
          have chGr : ∀ (A B : World) (row : Option Nat), W.heap.size ≤ A.heap.size → A.grownBy B row → (∀ r, row = some r → w'.heap.size ≤ r ∧ ∃ o : Obj, A.heap[r]? = some o ∧ o.isCells = false) → Ch W.heap.size sl.ownBlock (ss.length * 3) A B := fun A B row hA hg hr =>
            Ch.of_grown (fun q e => (hGl q e).2) hg hA (fun r e => by have := (hr r e).1; omega)
          have SX := hide (And.intro hG4 (And.intro hCh (And.intro gne (And.intro hS3 (And.intro hJ3 (And.intro hX0 (And.intro hlen2 (And.intro hpre (And.intro hnext (And.intro hys hS))))))))))
          clear hG4 hCh hS3 hJ3 hX0 hlen2 hpre hnext hys hS eX3
          gi_wp2_with fail
          refine wpT_N (l₀ := l1) (r₀ := r1) rfl l1X (by omega) (gf := 56) (lb := #[.pointer (some ⟨A3.heap.size, 0, none⟩), .pointer (some ⟨A3.heap.size + 1, 0, none⟩)]) rfl trivial (enters_of Try.func56 (by kernel_rfl) rfl)
            (encs := Wel.enc (w0 := w0)) (Rd := fun x A => GrS (w'.heap.size + 1) x.ss x.sl A) (C := Ch (w'.heap.size + 1) (some g) ((ss ++ [(⟨nm, ix, it⟩ : St)]).length * 3)) (Kp := fun x A A' => Kz (Zw w0 (w'.heap.size + 1) A3.heap.size (A3.heap.size + 1) (some g)) x.sl.ownBlock A A')
            (S := fun xs => xs.map Wel.pv = pts (.mk ukd ub um uf utx uty uits ufls) (ss ++ [(⟨nm, ix, it⟩ : St)])) (Sp := fun pre => ∃ k, pre.map Wel.pv = (pts (.mk ukd ub um uf utx uty uits ufls) (ss ++ [(⟨nm, ix, it⟩ : St)])).take k) (Nx := fun pre x => ∃ r, pre.map Wel.pv ++ x.pv :: r = pts (.mk ukd ub um uf utx uty uits ufls) (ss ++ [(⟨nm, ix, it⟩ : St)]))
            (fun W1 hb hs => by
              have := unhide IHu w0 [Value.int IntKind.i64 ukd, Value.bool ub, Value.int IntKind.i64 um, Value.float FloatKind.f64 uf, Value.string utx, Value.string uty, Value.slice uai uni uci, Value.slice uaf unf ucf] (unhide HU) (8 - 1 - 1 - 1) (ss ++ [(⟨nm, ix, it⟩ : St)]) (.slice (some ⟨g, 0, none⟩) n4 cap) A3.heap.size (A3.heap.size + 1) Bp W1 (S3X.bel.trans (hb.mono S3X.bel.size)) hBp (by omega) (by omega) ((hb.block _ bxp.lt).trans bxp) (Row8.below rxv hb) (Ch.grs_far (Ch.of_below (G := none) (m := 0) (fun g e => by cases e) hb) (fun q hq => ⟨(G4X.lt q hq).2, by simp⟩) G4X) (fun q e => (by have e' : g = q := (by simpa [Value.ownBlock] using e); subst e'; exact ⟨by omega, by omega⟩)) (fun e => by simp at e) (unhide SX).2.2.2.2.2.2.1 (by omega)
              rw [hs] at this
              exact SeqT.inRound l1 this)
            (fun A B hc h1 => hc.block _ (Nat.lt_succ_self _) (fun e => by cases e; omega))
            (fun x {A B C} h k => h.trans k) (fun x X o o' _ => Kz.putObj _ (fun h => by rcases h with h | h | h | h | h <;> first | omega | (cases h; omega))) (fun _ => rfl)
            (fun pre' X => WkS w0 W.heap.size bp Bp l ss sl X ∧ J (x0 :: (ys ++ pre')) X ∧ KeepsFrom A2.heap.size X0 X ∧ w'.heap.size ≤ X.heap.size)
            (fun c pre' X => c = .ret ∧ WkS w0 W.heap.size bp Bp l ss sl X ∧ Jx (x0 :: (ys ++ pre')) X ∧ KeepsFrom A2.heap.size X0 X ∧ w'.heap.size ≤ X.heap.size)
            (fun pre' A B h hc => ⟨wkCh A B h.1 hc, unhide HJ _ _ _ h.2.1 (chout A B hc), kpCh A B h.2.2.1 hc, Nat.le_trans h.2.2.2 hc.size⟩)
            (fun c pre' A B h hc => ⟨h.1, wkCh A B h.2.1 hc, unhide HJx _ _ _ h.2.2.1 (chout A B hc), kpCh A B h.2.2.2.1 hc, Nat.le_trans h.2.2.2.2 hc.size⟩)
            (fun pre' A B row h hg hr => ⟨wkGr A B row h.1 hg hr, unhide HJ _ _ _ h.2.1 (chGr A B row (by have := h.2.2.2; omega) hg hr), kpGr A B row h.2.2.1 hg hr, Nat.le_trans h.2.2.2 hg.size⟩)
            (fun c pre' A B row h hg hr => ⟨h.1, wkGr A B row h.2.1 hg hr, unhide HJx _ _ _ h.2.2.1 (chGr A B row (by have := h.2.2.2.2; omega) hg hr), kpGr A B row h.2.2.2.1 hg hr, Nat.le_trans h.2.2.2.2 hg.size⟩)
            ⟨S3X, by rw [List.append_nil]; exact J3X, K3X, Nat.le_refl _⟩
            (fun x a' X => ∃ Bq, Bq < X.heap.size ∧ w'.heap.size ≤ Bq ∧ GrS (w'.heap.size + 1) x.ss x.sl X ∧ x.sl.ownBlock ≠ some Bq ∧ X.rangeAt Bq 0 x.cs ∧ a' = { tmps := #[.func (.yield l) #[] #[], .pointer (some ⟨bp, 0, none⟩), .pointer (some ⟨bv, 0, none⟩), .pointer (some ⟨W.heap.size, 0, none⟩), .pointer (some ⟨Bs, 0, none⟩), .pointer (some ⟨Bx, 0, none⟩), x.sl, .pointer (some ⟨Bq, 0, none⟩), .func (.yield l) #[] #[], sl, .slice a1 ss.length c1, .agg #[Value.int IntKind.i64 kd, Value.bool b, Value.int IntKind.i64 m, Value.float FloatKind.f64 f, Value.string tx, Value.string ty, Value.slice ai ni ci, Value.slice af nf cf], .bool true, .bool false, .agg #[Value.int IntKind.i64 kd, Value.bool b, Value.int IntKind.i64 m, Value.float FloatKind.f64 f, Value.string tx, Value.string ty, Value.slice ai ni ci, Value.slice af nf cf], .func (.func 71) #[] #[.pointer (some ⟨A1.heap.size, 0, none⟩)], .agg #[.string nm, .int .i64 ix, .bool it], .agg #[Value.int IntKind.i64 ukd, Value.bool ub, Value.int IntKind.i64 um, Value.float FloatKind.f64 uf, Value.string utx, Value.string uty, Value.slice uai uni uci, Value.slice uaf unf ucf], sl, .agg #[.string nm, .int .i64 ix, .bool it], .slice (some ⟨X0.heap.size, 0, none⟩) 1 1, .slice (some ⟨g, 0, none⟩) n4 cap, .agg #[Value.int IntKind.i64 ukd, Value.bool ub, Value.int IntKind.i64 um, Value.float FloatKind.f64 uf, Value.string utx, Value.string uty, Value.slice uai uni uci, Value.slice uaf unf ucf], .func (.func 56) #[] #[.pointer (some ⟨A3.heap.size, 0, none⟩), .pointer (some ⟨A3.heap.size + 1, 0, none⟩)], x.sl, .agg x.cs.toArray, undef, undef, undef, undef, undef], defers := [] })
            (fun x a' _ X Y row hs hg hr => by obtain ⟨Bq, h2, h3, h4, h5, h6, h7⟩ := hs; exact ⟨Bq, Nat.lt_of_lt_of_le h2 hg.size, h3, grs_grown h4 hg (fun r e => (hr r e).2), h5, fun j u hu => cell_kept (h6 j u hu) hg (fun r e => (hr r e).2), h7⟩)
            ?assign2 ?body2 ?done2 ?stop2
          case assign2 =>
            rintro l2 pre' x X K ⟨h1, h2, h3, h4⟩ hRd - hK
            obtain ⟨xss, xv, xcs, xhv, xa, xc⟩ := x
            have hx' := xhv
            obtain ⟨xkd, xb, xm, xf, xtx, xty, xits, xfls⟩ := xv
            unfold VlC at hx'
            obtain ⟨xai, xni, xci, xaf, xnf, xcf, rfl, -⟩ := hx'
            unfold Wel.enc Wel.sl
            simp only
            have H1 := hide (And.intro h1 (And.intro h2 (And.intro h3 h4)))
            have HRd := hide hRd
            clear h1 h2 h3 hRd
            gi_wp2
            obtain ⟨h1, h2, h3, h4⟩ := unhide H1
            have bb : Below X.heap.size X (X.alloc (.cells #[Value.int IntKind.i64 xkd, Value.bool xb, Value.int IntKind.i64 xm, Value.float FloatKind.f64 xf, Value.string xtx, Value.string xty, Value.slice xai xni xci, Value.slice xaf xnf xcf] 27)) := (Below.refl _ X).alloc (Nat.le_refl _) _
            have hRd := unhide HRd
            refine hK _ _ (keepsFrom_below bb) (Kz.of_below bb) ⟨h1.below bb, unhide HJ _ _ _ h2 (Ch.of_below (fun q e => (hGl q e).2) (bb.mono (by omega))), h3.trans (keepsFrom_below bb), Nat.le_trans h4 bb.size⟩ ⟨X.heap.size, by simp, h4, Ch.grs_far (Ch.of_below (G := none) (m := 0) (fun g e => by cases e) bb) (fun q hq => ⟨(hRd.lt q hq).2, by simp⟩) hRd, fun e => by have := (hRd.lt _ e).2; omega, fun j q hq => ?_, rfl⟩
            rw [Nat.zero_add, World.cell?_alloc_at _ _ _ _ rfl]
            simpa using hq
          case body2 =>
            rintro l2 pre' x a' X hl2 ⟨r2, hr2⟩ ⟨h1, h2, h3, h4⟩ ⟨Bq, hBq, hwq, hGx, hnq, hrq, rfl⟩ ⟨rr, hnx⟩
            obtain ⟨hG4, hCh, gne, hS3, hJ3, hX0, hlen2, hpre, hnext, hys, hS⟩ := unhide SX
            have hnn := pts_next hnext hpre hys hnx
            obtain ⟨fn2, tmps2, assign2, body2, hy2, hR2⟩ := yield_any (l' := l2) (m := 3) (unhide HY (x0 :: (ys ++ pre')) x X h2 (GrS.older hGx (by omega)) (by
              obtain ⟨r', hr'⟩ := hnn
              exact ⟨r', by rw [List.map_cons, List.map_append, unhide EP]; exact hr'⟩))
            have HR2 := hide (ye_of hR2)
            have hpb := fun q e => (hGx.lt q e).1
            have hz : ∀ k, W.heap.size ≤ k → Zw w0 W.heap.size bp bv sl.ownBlock k := fun k h => .inr (.inl h)
            have FN := hide (show ∀ A9, Kz (Zw w0 W.heap.size bp bv sl.ownBlock) x.sl.ownBlock X A9 → KeepsFrom w'.heap.size X A9 ∧ Kz (Zw w0 (w'.heap.size + 1) A3.heap.size (A3.heap.size + 1) (some g)) x.sl.ownBlock X A9 ∧ WkS w0 W.heap.size bp Bp l ss sl A9 ∧ KeepsFrom A2.heap.size X0 A9 ∧ w'.heap.size ≤ A9.heap.size from fun A9 hk => by
              refine ⟨⟨hk.size, fun k o hk1 hX ho => ?_⟩, hk.mono (fun q hq => ?_), h1.kz hk (Nat.le_refl _) (fun q e => ?_), ⟨Nat.le_trans h3.size hk.size, fun k o hk1 hX ho => ?_⟩, Nat.le_trans h4 hk.size⟩
              · refine (hk.block k (Array.getElem?_eq_some_iff.1 hX).1 (hz k (by omega)) (fun e => ?_)).trans hX
                have := grs_cells hGx e.symm hX
                rw [this] at ho
                cases ho
              · rcases hq with h | h | h | h | h
                · exact .inl h
                · exact hz q (by omega)
                · exact hz q (by omega)
                · exact hz q (by omega)
                · obtain rfl : q = g := by simpa using h
                  rcases gcase with h | h
                  · exact .inr (.inr (.inr (.inr h.symm)))
                  · exact hz q (by omega)
              · have := hpb q e
                exact ⟨by omega, by omega, by omega, fun e' => by have := (hGl q e').2; omega⟩
              · have hlt := (Array.getElem?_eq_some_iff.1 hX).1
                have hXX := h3.same k o hk1 hX ho
                refine (hk.block k (Array.getElem?_eq_some_iff.1 hXX).1 (hz k (by omega)) (fun e => ?_)).trans hXX
                have := hpb k e.symm
                omega)
            have c3 := h1.yb.cell
            clear hnn hR2 hG4 hCh hS3 hJ3 hX0 hlen2 hpre hnext hys hS h1 h2 h3 hnx hpb gne
            obtain ⟨xss, xv, xcs, xhv, xa, xc⟩ := x
            have hx' := xhv
            obtain ⟨xkd, xb, xm, xf, xtx, xty, xits, xfls⟩ := xv
            unfold VlC at hx'
            obtain ⟨xai, xni, xci, xaf, xnf, xcf, rfl, -⟩ := hx'
            have hrq : X.rangeAt Bq 0 [Value.int IntKind.i64 xkd, Value.bool xb, Value.int IntKind.i64 xm, Value.float FloatKind.f64 xf, Value.string xtx, Value.string xty, Value.slice xai xni xci, Value.slice xaf xnf xcf] := hrq
            obtain ⟨z0, z1, z2, z3, z4, z5, z6, z7⟩ := Row8.eight hrq
            simp only [Nat.zero_add] at z1 z2 z3 z4 z5 z6 z7
            have hy3 : (Instr.yield l #[.slice xa xss.length xc, .agg #[Value.int IntKind.i64 xkd, Value.bool xb, Value.int IntKind.i64 xm, Value.float FloatKind.f64 xf, Value.string xtx, Value.string xty, Value.slice xai xni xci, Value.slice xaf xnf xcf]]).run Try.prog X = .ok (.round l fn2 tmps2 assign2 body2) X := hy2
            clear hrq hy2
            unfold Wel.sl
            simp only
            have hsf := unhide hsf2
            gi_wp2_with fail
            refine RoundIn.mono (unhide HR2) ?_
            rintro e A9 ⟨bt, rfl, hp⟩
            cases bt with
            | true =>
              obtain ⟨hj, hk⟩ : J ((x0 :: (ys ++ pre')) ++ [⟨xss, .mk xkd xb xm xf xtx xty xits xfls, _, xhv, xa, xc⟩]) A9 ∧ Kz (Zw w0 W.heap.size bp bv sl.ownBlock) (Wel.sl ⟨xss, .mk xkd xb xm xf xtx xty xits xfls, _, xhv, xa, xc⟩).ownBlock X A9 := by
                rcases hp with ⟨-, h⟩ | ⟨e, -⟩
                · exact h
                · cases e
              obtain ⟨k1, k2, k3, k4, k5⟩ := unhide FN A9 hk
              have HF := hide (And.intro k1 (And.intro k2 (And.intro k3 (And.intro k4 (And.intro k5 hj)))))
              clear hp hj hk k1 k2 k3 k4 k5
              gi_wp2
              obtain ⟨k1, k2, k3, k4, k5, hj⟩ := unhide HF
              exact ⟨k1, k2, k3, by rw [← List.append_assoc]; exact hj, k4, k5⟩
            | false =>
              obtain ⟨hj, hk⟩ : Jx ((x0 :: (ys ++ pre')) ++ [⟨xss, .mk xkd xb xm xf xtx xty xits xfls, _, xhv, xa, xc⟩]) A9 ∧ Kz (Zw w0 W.heap.size bp bv sl.ownBlock) (Wel.sl ⟨xss, .mk xkd xb xm xf xtx xty xits xfls, _, xhv, xa, xc⟩).ownBlock X A9 := by
                rcases hp with ⟨e, -⟩ | ⟨-, h⟩
                · cases e
                · exact h
              obtain ⟨k1, k2, k3, k4, k5⟩ := unhide FN A9 hk
              have HF := hide (And.intro k1 (And.intro k2 (And.intro k3 (And.intro k4 (And.intro k5 hj)))))
              clear hp hj hk k1 k2 k3 k4 k5
              gi_wp2
              obtain ⟨k1, k2, k3, k4, k5, hj⟩ := unhide HF
              exact ⟨k1, k2, rfl, k3, by rw [← List.append_assoc]; exact hj, k4, k5⟩
          case done2 =>
            rintro xs X hxs ⟨h1, h2, h3, h4⟩
            obtain ⟨hG4, hCh, gne, hS3, hJ3, hX0, hlen2, hpre, hnext, hys, hS⟩ := unhide SX
            gi_wp2
            refine ⟨h3, below_symm hS.bel h1.bel h3.size, h1, ys ++ xs, ?_, h2⟩
            rw [List.map_append, List.map_append]
            exact pts_done hnext hpre hys hxs
          case stop2 =>
            rintro c pre' X ⟨j, hpj⟩ ⟨rfl, h1, h2, h3, h4⟩
            obtain ⟨hG4, hCh, gne, hS3, hJ3, hX0, hlen2, hpre, hnext, hys, hS⟩ := unhide SX
            gi_wp2
            obtain ⟨i, hi⟩ := pts_part hnext hpre hys hpj
            refine ⟨h3, below_symm hS.bel h1.bel h3.size, rfl, h1.yb.lt, ys ++ pre', i, ?_, h2⟩
            rw [List.map_cons, List.map_append, unhide EP]
            exact hi
      case done =>
        rintro D xs X hD - hxs ⟨hS, ys, hys, hjy⟩ hK
        have HD := hide hK
        have HJy := hide hjy
        have HSx := hide hS
        have HYs := hide (show (x0 :: ys).map Wel.pv = pts (.mk kd b m f tx ty its fls) ss by rw [List.map_cons, hys, hxs, unhide EP, ← pts_kids])
        clear hK hjy hS hys hxs
        gi_wp2
        refine ⟨by simp, .inl ⟨_, _, rfl, run_takeDeferred (unhide HD), ?_⟩⟩
        refine ⟨_, results_none rfl _ _ _, ⟨_, rfl⟩, .inl ⟨_, unhide HYs, ?_⟩⟩
        exact unhide HJ _ _ _ (unhide HJy) (Ch.of_grown (fun g e => (unhide hGl' g e).2) (grownBy_putObj' _ D _) (Nat.le_of_lt (unhide HSx).yb.lt) (fun r e => by cases e; omega))
      case stop =>
        rintro D c pre X hD - - ⟨rfl, hx, ys, i, hys, hjx⟩ hK
        have HD := hide hK
        have HJy := hide hjx
        have HYs := hide hys
        clear hK hjx hys
        gi_wp2
        refine ⟨by simp, .inl ⟨_, _, rfl, run_takeDeferred (unhide HD), ?_⟩⟩
        refine ⟨_, results_none rfl _ _ _, ⟨_, rfl⟩, .inr ⟨_, ⟨i, unhide HYs⟩, ?_⟩⟩
        exact unhide HJx _ _ _ (unhide HJy) (Ch.of_grown (fun g e => (unhide hGl' g e).2) (grownBy_putObj' _ D _) (Nat.le_of_lt hx) (fun r e => by cases e; omega))
theorem walk_ok : ∀ v : Vl, Small v → WalkAt v := by
  refine Vl.all ?_
  intro kd b n f tx ty its fls hI hF hsm
  have hs := hsm
  unfold Small at hs
  obtain ⟨-, -, -, hsI, hsF⟩ := hs
  exact walk_step _ hsm (mem_kids (P := WalkAt) (fun v hv => hI v hv (hsI.all v hv)) (fun q hq => hF q hq (hsF.all q hq)))
end Go.Proofs.Ythpcpminikmcbaa.og
namespace Go.Proofs.Ythpcpminikmcbaa.og
open Go.ChangeShapes Go.WideShapes Go.ChangeAt Go.RowKit
open vl hiding cB cFl cS cF cI cK cIt
open stp (St Pth St3)
set_option linter.unusedVariables false
set_option linter.unusedSimpArgs false
set_option maxHeartbeats 8000000 in
set_option maxRecDepth 6000 in
theorem parts_step (v : Vl) (hsm : Small v) (ih : ∀ q ∈ kids v, PartsAt q.2) : PartsAt v := by
  intro V cs w path ap n c F l sl G hv hVw hG hP hF hb1 hb2
  obtain ⟨aS, nS, cS, rfl⟩ := hG.form
  have c8 := hv.cells
  have hcs : ∃ c0 c1 c2 c3 c4 c5 c6 c7, cs = [c0, c1, c2, c3, c4, c5, c6, c7] := by
    match cs, c8 with
    | [c0, c1, c2, c3, c4, c5, c6, c7], _ => exact ⟨c0, c1, c2, c3, c4, c5, c6, c7, rfl⟩
  obtain ⟨c0, c1, c2, c3, c4, c5, c6, c7, rfl⟩ := hcs
  have iv : (Try.prog.info? 27).map (·.size) = some [c0, c1, c2, c3, c4, c5, c6, c7].length := infoV
  obtain ⟨W, eW⟩ : ∃ W, W = w.alloc (.cells [c0, c1, c2, c3, c4, c5, c6, c7].toArray 27) := ⟨_, rfl⟩
  have bW : Below w.heap.size w W := by rw [eW]; exact (Below.refl _ _).alloc (Nat.le_refl _) _
  have sW : W.heap.size = w.heap.size + 1 := by rw [eW]; simp
  have rW : W.rangeAt w.heap.size 0 [c0, c1, c2, c3, c4, c5, c6, c7] := fun j u hu => by rw [Nat.zero_add, eW, World.cell?_alloc_at _ _ _ _ rfl]; simpa using hu
  have hlt0 : ∀ b, (Value.slice aS nS cS).ownBlock = some b → V.heap.size ≤ b ∧ b < w.heap.size := fun b hb => let ⟨xss, hr, _⟩ := hG.row; hr.lt b hb
  have hGW := hG.below (agP V) bW
  have hPW : PO W path ap n F := hP.agree (fun b hb => bW.block b (hF.2.1 b hb).2.1)
  have hFW : F.Nodup ∧ (∀ b ∈ F, V.heap.size ≤ b ∧ b < W.heap.size ∧ b ∉ G ∧ (Value.slice aS nS cS).ownBlock ≠ some b) ∧ Fz W F :=
    ⟨hF.1, fun b hb => ⟨(hF.2.1 b hb).1, by have := (hF.2.1 b hb).2.1; omega, (hF.2.1 b hb).2.2⟩, fun b hb j => (frozen_blk (bW.block b (hF.2.1 b hb).2.1) j).trans (hF.2.2 b hb j)⟩
  have cp : 1 ≤ cnt v := by rw [cnt_kids]; omega
  have hn1 : l.length + 1 ≤ 1048576 := by omega
  have hVW : V.heap.size ≤ W.heap.size := by have := hVw.size; omega
  have A := hide (And.intro hGW (And.intro hVW (And.intro hPW (And.intro hv (And.intro hFW (And.intro hn1 (And.intro rW iv)))))))
  have hbd := hide (buildP hv ap n c W)
  have EW := hide eW
  have SW := hide sW
  clear hGW hVW hPW hFW hn1 rW iv eW sW
  go_enter Try.func31, Try.ntmps31
  go_wp2_with (first
    | (rw [← unhide EW]; refine wpList_load_mid (by rfl) 27 _ (by rfl) w.heap.size 0 (by rfl) [c0, c1, c2, c3, c4, c5, c6, c7] _ (unhide A).2.2.2.2.2.2.1 Try.underlying27 (by rfl) (unhide A).2.2.2.2.2.2.2 ?_)
    | refine wpList_buildOne (by rfl) 38 _ (by rfl) (.agg (Value.slice ap n c :: [c0, c1, c2, c3, c4, c5, c6, c7]).toArray) _ (by rfl) (unhide hbd) ?_
    | (at_builtin; go_loud (refine wp_part (unhide A).1 (unhide A).2.1 (unhide A).2.2.1 (unhide A).2.2.2.1 (unhide A).2.2.2.2.1 (by rfl) _ _ (by rfl) (by rfl) W.heap.size rfl (by rfl) (unhide A).2.2.2.2.2.1 ?_; intro aj nj cj w2 g1 g2 g3 g4; have D := hide (And.intro g1 (And.intro g2 (And.intro g3 g4))); clear g1 g2 g3 g4))
    | refine wpList_load_mid (by rfl) 27 _ (by rfl) w.heap.size 0 (by rfl) [c0, c1, c2, c3, c4, c5, c6, c7] _ (fun j u hu => (cell_blk ((unhide D).2.2.1 w.heap.size (by have := unhide SW; omega) (fun e => by have := (hlt0 _ e).2; omega)) _).trans ((unhide A).2.2.2.2.2.2.1 j u hu)) Try.underlying27 (by rfl) (unhide A).2.2.2.2.2.2.2 ?_)
  have hD := unhide D
  have hVw2 : Below V.heap.size V w2 := (hVw.trans (bW.mono hVw.size)).trans hD.2.1
  have hw2 : W.heap.size ≤ w2.heap.size := hD.2.1.size
  refine (cg_ok v hsm V _ w2 hVw2 (unhide A).2.2.2.1).mono ?_
  rintro e w3 ⟨s4, s5, rfl, hcg⟩
  obtain ⟨a4, c4', e4⟩ := hcg.g4.form
  obtain ⟨a5, c5', e5⟩ := hcg.g5.form
  rw [List.length_map] at e4 e5
  have P0 := hide (show PrS V w w2 (.slice aS nS cS) s4 s5 ((kids v).map Prod.fst) ((kids v).map Prod.snd) (l ++ [(path, v)]) (.slice aj nj cj) (G ++ F) w3 from {
    grow := hD.1.below (agP V) hcg.bel
    g4 := hcg.g4
    g5 := hcg.g5
    bel := ((bW.mono hVw.size).trans hD.2.1).trans (hcg.bel.mono hVw2.size)
    hold := fun b hb hne => by
      have hs := unhide SW
      exact ((hcg.bel.block b (by omega)).trans (hD.2.2.1 b (by omega) hne)).trans (bW.block b hb)
    ownN := fun k hk => by
      have hs := unhide SW
      rcases hD.2.2.2 k hk with h | h
      · exact .inl h
      · exact .inr (by omega)
    own4 := fun b hb e => by
      have h1 : b < w2.heap.size := by obtain ⟨xss, hr, _⟩ := hD.1.row; exact (hr.lt b e).2
      rcases hb with hb | hb
      · have := (hcg.g4.lt b hb).1; omega
      · have := (hcg.g5.lt b hb).1; omega })
  have HPP := hide hP
  have HFF := hide hF
  have HV := hide (unhide A).2.2.2.1
  have HVw := hide hVw
  have HVw2 := hide hVw2
  have HPT := hide (pts_kids v path)
  have HCK := hide (fun k q => @cnt_kid v k q)
  have HCN : (kids v).length ≤ 1048576 := by
    have h1 := cnt_kids v
    have h2 : ∀ l : List (St × Vl), l.length ≤ (l.map (fun p => cnt p.2)).sum := by
      intro l
      induction l with
      | nil => simp
      | cons a r ih2 =>
        have : 1 ≤ cnt a.2 := by rw [cnt_kids]; omega
        simp; omega
    have := h2 (kids v)
    omega
  clear hD hcg D A hbd hVw2 hw2 hP hF hv hVw hG bW EW SW
  obtain ⟨ks, eks⟩ : ∃ ks, ks = kids v := ⟨_, rfl⟩
  rw [← eks] at P0 HPT HCK HCN e4 e5 ih
  clear eks
  subst e4 e5
  go_wp2_with fail
  go_loopw [9, 2] (fun vi v2 wr => ∃ (k : Nat) (sl' : Value) (G' : List Nat), k ≤ ks.length ∧ vi = .int .i64 k ∧ v2 = sl' ∧ vl.Hid (PrS V w w2 (.slice aS nS cS) (.slice a4 ks.length c4') (.slice a5 ks.length c5') (ks.map Prod.fst) (ks.map Prod.snd) (l ++ (path, v) :: (ks.take k).flatMap (fun q => pts q.2 (path ++ [q.1]))) sl' G' wr)) (fun vi _ _ => ks.length - (intOf vi).toNat)
  case atStart => exact ⟨0, _, _, Nat.zero_le _, rfl, rfl, by rw [List.take_zero, List.flatMap_nil]; exact P0⟩
  case round =>
    clear P0
    obtain ⟨k, sl', G', hk1, rfl, hv2, HS⟩ := hrel
    have hv2 := hv2.symm
    subst hv2
    by_cases hlt : k < ks.length
    · have ki : (k : Int) < (ks.length : Int) := by omega
      have hS := unhide HS
      obtain ⟨⟨st, u⟩, hq⟩ : ∃ q, ks[k]? = some q := ⟨_, List.getElem?_eq_getElem hlt⟩
      obtain ⟨b4, cap4, cs4, e4, h4, r4⟩ := GrV.get hS.g4 (fun e cs h => by rw [h]; rfl) (k := k) (e := st) (by rw [List.getElem?_map, hq]; rfl)
      obtain ⟨b5, cap5, us, e5, h5, r5⟩ := GrV.get hS.g5 (fun e cs h => h.cells) (k := k) (e := u) (by rw [List.getElem?_map, hq]; rfl)
      simp only [Value.slice.injEq] at e4 e5
      obtain ⟨rfl, -, rfl⟩ := e4
      obtain ⟨rfl, -, rfl⟩ := e5
      subst h4
      have hpth := (unhide HPP).agree (fun b hb => hS.hold b ((unhide HFF).2.1 b hb).2.1 ((unhide HFF).2.1 b hb).2.2.2)
      have hck := unhide HCK k (st, u) hq
      have HLO := hide (longer_ok path st ap n c wr hpth.pth (by have := (unhide HPP).1; omega))
      have R4 := hide r4
      have R5 := hide r5
      have H5 := hide h5
      have Hq := hide hq
      have HB := hide (And.intro hck (flat_len path (ks.take k)))
      clear hS r4 r5 h5 hpth hck hq
      go_wp2_with (refine wpList_load_mid (by rfl) 34 _ (by rfl) b4 (k * 3) (by rfl) (stC st) _ (unhide R4) Try.underlying34 (by rfl) infoS3 ?_)
      refine (unhide HLO).mono ?_
      rintro e w5 ⟨slp, rfl, hgs, b5b⟩
      obtain ⟨g, cap, rfl, hpo, hg1, hg2, hfz⟩ := PO.of_grs (by simp) hgs
      have hln : (path ++ [st]).length = path.length + 1 := by simp
      rw [hln] at hpo ⊢
      clear hln
      have R6 := hide (Row8.below (unhide R5) b5b)
      have iu := hide (show (Try.prog.info? 27).map (·.size) = some us.length by rw [(unhide H5).cells]; exact infoV)
      have X := hide (And.intro hpo (And.intro hg1 (And.intro hg2 (And.intro hfz b5b))))
      clear hgs hpo hg1 hg2 hfz b5b HLO
      have hS := unhide HS
      obtain ⟨hpo, hg1, hg2, hfz, b5b⟩ := unhide X
      have hown : ∀ b, sl'.ownBlock = some b → b < wr.heap.size := fun b (hb : sl'.ownBlock = some b) => by obtain ⟨xss, hr, _⟩ := hS.grow.row; exact (hr.lt b hb).2
      have hwr : V.heap.size ≤ wr.heap.size := Nat.le_trans (unhide HVw).size hS.bel.size
      have hih := (ih (st, u) (List.mem_of_getElem? (unhide Hq)) V us w5 (path ++ [st]) (some ⟨g, 0, none⟩) (path.length + 1) cap [g] (l ++ (path, v) :: (ks.take k).flatMap (fun q => pts q.2 (path ++ [q.1]))) sl' G' (unhide H5) (((unhide HVw).trans hS.bel).trans (b5b.mono hwr)) (hS.grow.below (agP V) b5b) hpo ⟨by simp, fun b hb => by
          rw [List.mem_singleton.1 hb]
          exact ⟨by omega, hg2, fun hm => by have := (hS.grow.rng g hm).2; omega, fun e => by have := hown g e; omega⟩, hfz⟩ (by
          have h1 := (unhide HB).1
          have h2 := (unhide HB).2
          rw [List.length_append, List.length_cons, h2]
          simp only at h1 ⊢
          omega) (by
          have h1 := (unhide HB).1
          rw [List.length_append]
          simp only [List.length_singleton] at h1 ⊢
          omega))
      have HIH := hide hih
      clear hih hS hpo hg1 hg2 hfz b5b hown hwr
      go_wp2_with (refine wpList_load_mid (by rfl) 27 _ (by rfl) b5 (k * 8) (by rfl) us _ (unhide R6) Try.underlying27 (by rfl) (unhide iu) ?_)
      refine (unhide HIH).mono ?_
      rintro e w6 ⟨sl6, G6, rfl, gr6, be6, ho6, on6⟩
      have hS := unhide HS
      obtain ⟨hpo, hg1, hg2, hfz, b5b⟩ := unhide X
      have hwr : V.heap.size ≤ wr.heap.size := Nat.le_trans (unhide HVw).size hS.bel.size
      have hb5s := b5b.size
      have P6 := hide (show PrS V w w2 (.slice aS nS cS) (.slice (some ⟨b4, 0, none⟩) ks.length c4') (.slice (some ⟨b5, 0, none⟩) ks.length c5') (ks.map Prod.fst) (ks.map Prod.snd) _ sl6 G6 w6 from {
        grow := gr6
        g4 := hS.g4.keep (fun b hb => (ho6 b (by have := (hS.g4.lt b hb).2; omega) (hS.own4 b (.inl hb))).trans (b5b.block b (hS.g4.lt b hb).2))
        g5 := hS.g5.keep (fun b hb => (ho6 b (by have := (hS.g5.lt b hb).2; omega) (hS.own4 b (.inr hb))).trans (b5b.block b (hS.g5.lt b hb).2))
        bel := (hS.bel.trans (b5b.mono hwr)).trans be6
        hold := fun b hb hne => by
          have hws := hS.bel.size
          refine ((ho6 b (by omega) (fun e => ?_)).trans (b5b.block b (by omega))).trans (hS.hold b hb hne)
          rcases hS.ownN b e with h | h
          · exact hne h
          · omega
        ownN := fun q hq => by
          have hws := hS.bel.size
          rcases on6 q hq with h | h
          · exact hS.ownN q h
          · exact .inr (by omega)
        own4 := fun b hb e => by
          rcases on6 b e with h | h
          · exact hS.own4 b hb h
          · rcases hb with hb | hb
            · have := (hS.g4.lt b hb).2; omega
            · have := (hS.g5.lt b hb).2; omega })
      clear hS hpo hg1 hg2 hfz b5b hwr gr6 be6 ho6 on6 X
      go_wp2
      go_roundw
      case rel => exact ⟨k + 1, sl6, G6, by omega, by go_num, rfl, by rw [List.take_add_one, unhide Hq, List.flatMap_append]; simpa using P6⟩
      case measure => simp [intOf]; omega
    · obtain rfl : k = ks.length := by omega
      have hS := unhide HS
      rw [List.take_length, ← unhide HPT] at hS
      have HS2 := hide hS
      clear hS HS
      go_wp2
      go_ret
      exact ⟨_, rfl, ⟨G', (unhide HS2).grow⟩, (unhide HS2).bel, (unhide HS2).hold, (unhide HS2).ownN⟩
theorem parts_ok : ∀ v : Vl, Small v → PartsAt v := by
  refine Vl.all ?_
  intro kd b n f tx ty its fls hI hF hv
  have hv0 := hv
  unfold Small at hv
  exact parts_step _ hv0 (mem_kids (P := PartsAt) (fun v hm => hI v hm (hv.2.2.2.1.all _ hm)) (fun q hm => hF q hm (hv.2.2.2.2.all _ hm)))
end Go.Proofs.Ythpcpminikmcbaa.og
namespace Go.Proofs.Ythpcpminikmcbaa.ints
open Go.ChangeShapes Go.WideShapes Go.ChangeAt Go.RowKit

theorem hide {p : Prop} (h : p) : Hid p := h
theorem unhide {p : Prop} (h : Hid p) : p := h
end Go.Proofs.Ythpcpminikmcbaa.ints
