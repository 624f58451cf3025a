import Derived.Test.YtifbkdicglcogaaGreatSpl11
set_option linter.unusedVariables false
set_option linter.unusedSimpArgs false
namespace Go.Proofs.YtifbkdicglcogaaGreat.lx
open mem (pfx digB digs digAt isAt bWhole bPart bPoint bMark pfxFirst pfxR posT enB prB)
open cu (Tk)
structure Loc (l l' : List Int) (T : Nat) : Prop where
 tk : l'.take T = l.take T
 le : T ≤ l.length
 nl : cAt l' T = 10
section
variable {l l' : List Int} {T : Nat} (H : Loc l l' T)
include H
theorem Loc.lt : T < l'.length := cAt_lt H.nl (by decide)
theorem Loc.get {i : Nat} (hi : i < T) : l'[i]? = l[i]? := by
 have h1 : (l'.take T)[i]? = (l.take T)[i]? := by rw [H.tk]
 rwa [List.getElem?_take, List.getElem?_take, if_pos hi, if_pos hi] at h1
theorem Loc.getD {i : Nat} (hi : i < T) : l'.getD i 0 = l.getD i 0 := by
 rw [List.getD_eq_getElem?_getD, List.getD_eq_getElem?_getD, H.get hi]
theorem Loc.at_ {i : Nat} (hi : i < T) : cAt l' i = cAt l i := by
 have := H.lt
 have := H.le
 rw [cAt_in (by omega), cAt_in (by omega), H.getD hi]
end
end Go.Proofs.YtifbkdicglcogaaGreat.lx
namespace Go.Proofs.YtifbkdicglcogaaGreat.cu
open dt (Dt)
open mem (decF decZ putB scB Byt posT enB)
open lx (toks chs cln tksG tkG)
def behind (l : List Int) (T : Nat) (tl : List Int) : List Int := (l.take T).flatMap putB ++ 10 :: tl
theorem posT_up (l : List Int) : ∀ (k j : Nat), j < k → (posT l j).1 < (posT l k).1 ∨ ((posT l j).1 = (posT l k).1 ∧ (posT l j).2 < (posT l k).2)
 | 0, j, h => by omega
 | k + 1, j, h => by
  simp only [posT]
  by_cases e : j = k
  ·subst e
   cases enB l j
   ·right; simp; omega
   ·left; simp; omega
  ·have := posT_up l k j (by omega)
   cases enB l k
   ·simp; omega
   ·left; simp; omega
theorem posT_inj (l : List Int) {j k : Nat} (h : posT l j = posT l k) : j = k := by
 rcases Nat.lt_trichotomy j k with h1 | h1 | h1
 ·have := posT_up l k j h1; rw [h] at this; omega
 ·exact h1
 ·have := posT_up l j k h1; rw [h] at this; omega
theorem tks_fr (l : List Int) (cl : Bool) : ∀ (q i : Nat) (t : Tk), i ≤ l.length → (tksG l cl i)[q]? = some t → i ≤ t.fr ∧ (t.ln, t.co) = posT l t.fr
 | 0, i, t, hi, h => by
  have h0 : (tksG l cl i)[0]? = some (tkG l cl i) := by
   by_cases he : (tkG l cl i).k = 0 ∨ (tkG l cl i).k = 1
   ·rw [lx.tksG_end he]; rfl
   ·rw [lx.tksG_go hi he]; rfl
  rw [h0] at h
  obtain rfl := Option.some.inj h
  exact ⟨(lx.ign_le l false i).1, rfl⟩
 | q + 1, i, t, hi, h => by
  have hle := lx.tkG_le l cl i hi
  by_cases he : (tkG l cl i).k = 0 ∨ (tkG l cl i).k = 1
  ·rw [lx.tksG_end he] at h; simp at h
  ·rw [lx.tksG_go hi he] at h
   have := tks_fr l cl q _ t hle.2.1 (by simpa using h)
   have hit : i < (tkG l cl i).to := by rcases hle.2.2 with h | h | h; exact absurd (.inl h) he; exact absurd (.inr h) he; exact h
   exact ⟨by omega, this.2⟩
theorem tks_fr_lt (l : List Int) (cl : Bool) : ∀ (q m i : Nat) (t u : Tk), i ≤ l.length → q < m → (tksG l cl i)[q]? = some t → (tksG l cl i)[m]? = some u → t.fr < u.fr
 | q, 0, i, t, u, hi, hqm, h, h' => by omega
 | q, m + 1, i, t, u, hi, hqm, h, h' => by
  have hle := lx.tkG_le l cl i hi
  by_cases he : (tkG l cl i).k = 0 ∨ (tkG l cl i).k = 1
  ·rw [lx.tksG_end he] at h'; simp at h'
  ·have hgo := lx.tksG_go hi he
   rw [hgo] at h h'
   cases q with
   | zero =>
    simp at h
    subst h
    have h2 := tks_fr l cl m _ u hle.2.1 (by simpa using h')
    have hr := lx.rdG_le l cl (lx.ign l false i) ((lx.ign_le l false i).2 hi)
    have : (tkG l cl i).fr < (tkG l cl i).to := by
     rcases hr.2.2 with h | h | h
     ·exact absurd (.inl h) he
     ·exact absurd (.inr h) he
     ·exact h
    omega
   | succ q => exact tks_fr_lt l cl q m _ t u hle.2.1 (by omega) (by simpa using h) (by simpa using h')
theorem toks_at (z : List Int) {q m : Nat} {t u : Tk} (h : (toks z)[q]? = some t) (h' : (toks z)[m]? = some u) (e : t.ln = u.ln ∧ t.co = u.co) : q = m := by
 have h1 := (tks_fr _ _ q 0 t (Nat.zero_le _) h).2
 have h2 := (tks_fr _ _ m 0 u (Nat.zero_le _) h').2
 have h3 : t.fr = u.fr := posT_inj (chs z) (by rw [← h1, ← h2, e.1, e.2])
 rcases Nat.lt_trichotomy q m with h4 | h4 | h4
 ·have := tks_fr_lt _ _ q m 0 t u (Nat.zero_le _) h4 h h'; omega
 ·exact h4
 ·have := tks_fr_lt _ _ m q 0 u t (Nat.zero_le _) h4 h' h; omega
end Go.Proofs.YtifbkdicglcogaaGreat.cu
namespace Go.Proofs.YtifbkdicglcogaaGreat.lx
open mem (pfx digB digs digAt isAt bWhole bPart bPoint bMark pfxFirst pfxR posT enB prB)
open cu (Tk)
structure Lox (l l' : List Int) (T : Nat) : Prop where
 tk : l'.take T = l.take T
 le : T ≤ l.length
 hl : T ≤ l'.length
 nl : cAt l' T = 10 ∨ cAt l' T = -1 ∨ cAt l' T = 123 ∨ cAt l' T = 125 ∨ cAt l' T = 32 ∨ cAt l' T = 9 ∨ cAt l' T = 13 ∨ cAt l' T = 44 ∨ cAt l' T = 65279
section
variable {l l' : List Int} {T : Nat} (H : Lox l l' T)
include H
end
end Go.Proofs.YtifbkdicglcogaaGreat.lx
namespace Go.Proofs.YtifbkdicglcogaaGreat.cu
open dt (Dt)
open mem (decF decZ putB scB Byt posT enB)
open lx (toks chs cln tksG tkG)
def sdocG (z : List Int) (d : Int) : Option (List Dt) × Cu := sdocS (newG z d)
theorem optR_alive {E : Cu → Dt × Cu} {c : Cu} (h : (optR E c).1.isSome = true) : (optR E c).2.kd = 0 := by
 have h' : (cond (decide ((E c).2.kd = 0)) (some (E c).1) none).isSome = true := h
 by_cases hk : (E c).2.kd = 0
 ·exact hk
 ·rw [decide_eq_false hk] at h'; cases h'
open Go.ChangeShapes Go.WideShapes Go.ChangeAt Go.RowKit
open ints (Hi uh)
open dt (Dt Kp RowAt Ow Grow OwIn)
structure Sh (w : World) (k : Nat) (l : List Dt) (lo hi : Nat) (a : Option Addr) (n c : Nat) (F : List Nat) : Prop where
 nc : n ≤ c
 cm : c ≤ maxLen
 no : a = none → c = 0
 nd : F.Nodup
 rng : ∀ b ∈ F, lo ≤ b ∧ b < hi
 hi : hi ≤ w.heap.size
 len : n = l.length
 at_ : (a = none ∧ Dt.of l = .nil ∧ n = 0 ∧ F = []) ∨ ∃ p G', a = some ⟨p, 0, none⟩ ∧ F = p :: G' ∧ OwIn w (Dt.of l) k p 0 n G'
theorem Sh.of {t : TypeId} {k : Nat} {w : World} {lo : Nat} {l : List Dt} {sl : Value} {G : List Nat} (h : Grow t k w lo l sl G) : ∃ a n c F, sl = .slice a n c ∧ Sh w k l lo w.heap.size a n c F := by
 obtain ⟨a, n, c, F, rfl, h1, h2, h3, h4, h5, h6, h7⟩ := h.shut
 exact ⟨a, n, c, F, rfl, h1, h2, h3, h4, h5, Nat.le_refl _, h6, h7⟩
theorem Sh.nil {w : World} {k lo hi : Nat} (h : hi ≤ w.heap.size) : Sh w k [] lo hi none 0 0 [] := ⟨Nat.le_refl _, Nat.zero_le _, fun _ => rfl, List.nodup_nil, by simp, h, rfl, .inl ⟨rfl, rfl, rfl, rfl⟩⟩
theorem Sh.agree {w w' : World} {k : Nat} {l : List Dt} {lo hi : Nat} {a : Option Addr} {n c : Nat} {F : List Nat} (h : Sh w k l lo hi a n c F) (hs : w.heap.size ≤ w'.heap.size) (ha : dt.Agree F w w') : Sh w' k l lo hi a n c F := by
 refine ⟨h.nc, h.cm, h.no, h.nd, h.rng, Nat.le_trans h.hi hs, h.len, ?_⟩
 rcases h.at_ with x | ⟨p, G, e, rfl, x⟩
 ·exact .inl x
 ·exact .inr ⟨p, G, e, rfl, OwIn.agree _ k p 0 n G ha x⟩
theorem Sh.kp {w w' : World} {k : Nat} {l : List Dt} {lo hi B : Nat} {a : Option Addr} {n c : Nat} {F : List Nat} (h : Sh w k l lo hi a n c F) (hk : Kp B w w') (hB : B < lo) : Sh w' k l lo hi a n c F :=
 h.agree hk.size (fun b hb j => dt.cell_blk (hk.block b (Nat.lt_of_lt_of_le (h.rng b hb).2 h.hi) (by have := (h.rng b hb).1; omega)) j)
theorem Sh.out {w : World} {k : Nat} {l : List Dt} {lo hi b : Nat} {a : Option Addr} {n c : Nat} {F : List Nat} (h : Sh w k l lo hi a n c F) (hb : b < lo ∨ hi ≤ b) (o : Nat) (vs : List Value) : Sh (w.setCells b o vs) k l lo hi a n c F :=
 h.agree (by rw [dt.size_setCells]; exact Nat.le_refl _) (fun x hx j => dt.cell_blk (dt.heap_setCells b x (by have := h.rng x hx; intro e; subst e; omega) vs o w) j)
theorem Sh.ow {w : World} {k : Nat} {l : List Dt} {lo hi : Nat} {a : Option Addr} {n c : Nat} {F : List Nat} (h : Sh w k l lo hi a n c F) {r : Dt} {ds : List Value} {F2 : List Nat} (hr : Ow w r ds F2) : Ow w (.lst k (Dt.of l) r) (.slice a n c :: ds) (F ++ F2) := by
 unfold Ow
 exact ⟨a, n, c, ds, F, F2, rfl, h.nc, h.cm, h.no, h.at_, hr, rfl⟩
def selC (k : Int) (al nm on : ByteArray) (a1 : Option Addr) (n1 c1 : Nat) (a2 : Option Addr) (n2 c2 : Nat) (a3 : Option Addr) (n3 c3 : Nat) (ln co : Int) : List Value := [.int .i64 k, .string al, .string nm, .string on, .slice a1 n1 c1, .slice a2 n2 c2, .slice a3 n3 c3, .int .i64 ln, .int .i64 co]
structure SelPost (r : Option Dt) (w w' : World) (cs : List Value) (F : List Nat) : Prop where
 shape : ∃ k al nm on a1 n1 c1 a2 n2 c2 a3 n3 c3 ln co, cs = selC k al nm on a1 n1 c1 a2 n2 c2 a3 n3 c3 ln co
 own : ∀ d, r = some d → Ow w' d cs F ∧ F.Nodup ∧ ∀ b ∈ F, w.heap.size ≤ b ∧ b < w'.heap.size
theorem brkD_full {r : Option (List Dt)} {lo : Nat} {w : World} {sl : Value} (h : BrkPD r lo w sl) : ∃ a n c F, sl = .slice a n c ∧ Sh w 4 (r.getD []) lo w.heap.size a n c F := by
 unfold BrkPD at h
 cases r with
 | none => subst h; exact ⟨none, 0, 0, [], rfl, Sh.nil (Nat.le_refl _)⟩
 | some l =>
  obtain ⟨G, hg⟩ := h
  obtain ⟨a, n, c, F, rfl, hs⟩ := Sh.of hg
  exact ⟨a, n, c, F, rfl, hs⟩
def allocs (w : World) : List (Array Value × TypeId) → World
 | [] => w
 | x :: l => allocs (w.alloc (.cells x.1 x.2)) l
theorem allocs_size : ∀ (l : List (Array Value × TypeId)) (w : World), (allocs w l).heap.size = w.heap.size + l.length
 | [], w => rfl
 | x :: l, w => by rw [allocs, allocs_size l]; simp; omega
theorem allocs_below : ∀ (l : List (Array Value × TypeId)) (w : World), Below w.heap.size w (allocs w l)
 | [], w => Below.refl _ _
 | x :: l, w => (ba).trans ((allocs_below l _).mono (by simp))
theorem allocs_at : ∀ (l : List (Array Value × TypeId)) (w : World) (i : Nat) (x : Array Value × TypeId), l[i]? = some x → (allocs w l).heap[w.heap.size + i]? = some (.cells x.1 x.2 (0, 0))
 | [], w, i, x, h => by simp at h
 | y :: l, w, 0, x, h => by
  simp at h
  subst h
  exact ((allocs_below l _).block _ (by simp)).trans (heap_alloc_new w _)
 | y :: l, w, i + 1, x, h => by
  have := allocs_at l (w.alloc (.cells y.1 y.2)) i x (by simpa using h)
  rw [World.size_alloc, Nat.add_assoc, Nat.add_comm 1 i] at this
  exact this
theorem _root_.Go.Proofs.YtifbkdicglcogaaGreat.dt.Kp.setB {B : Nat} {w w1 : World} (h : Kp B w w1) {b : Nat} (hb : w.heap.size ≤ b) (o : Nat) (v : Value) : Kp B w (w1.setCell ⟨b, o, none⟩ v) := h.out hb o [v]
theorem Sh.outC {w : World} {k : Nat} {l : List Dt} {lo hi b : Nat} {a : Option Addr} {n c : Nat} {F : List Nat} (h : Sh w k l lo hi a n c F) (hb : b < lo ∨ hi ≤ b) (o : Nat) (v : Value) : Sh (w.setCell ⟨b, o, none⟩ v) k l lo hi a n c F := h.out hb o [v]
theorem Sh.below {w w' : World} {k : Nat} {l : List Dt} {lo hi : Nat} {a : Option Addr} {n c : Nat} {F : List Nat} (h : Sh w k l lo hi a n c F) (hb : Below w.heap.size w w') : Sh w' k l lo hi a n c F := h.agree hb.size (fun b hx j => dt.cell_blk (hb.block b (Nat.lt_of_lt_of_le (h.rng b hx).2 h.hi)) j)
theorem size_setC (w : World) (b o : Nat) (v : Value) : (w.setCell ⟨b, o, none⟩ v).heap.size = w.heap.size := by simp
theorem args_all (ct : Bool) (N : Nat) (c : Cu) (hc : c.Ok) (hlen : c.ts.length ≤ 1099511627777) (hN : c.ts.length ≤ N) : ArgsAt (argsS (litF ct N)) ct c :=
 args_ok (litF ct N) ct c hc hlen (litF_goes ct N) (fun cc h1 h2 h3 => arg_ok (litF ct N) ct cc h1 (litF_ok ct N _ (want_stp (name_stp h1).ok bCol).ok (by rw [((name_stp h1).trans (want_stp (name_stp h1).ok bCol)).ts, h2]; exact hlen) (by rw [((name_stp h1).trans (want_stp (name_stp h1).ok bCol)).ts, h2]; omega)) (name_dead ct N cc))
theorem dirs_all (ct : Bool) (N : Nat) (c : Cu) (hc : c.Ok) (hlen : c.ts.length ≤ 1099511627777) (hN : c.ts.length ≤ N) : DirsAt (dirs (litF ct N)) ct c :=
 dirs_ok (litF ct N) ct c hc hlen (litF_goes ct N) (fun cc h1 h2 h3 h4 => dir_ok (litF ct N) ct cc h1 (isP_more h1 h4) (args_all ct N _ (name_stp (takeP h1 h4).ok).ok (by rw [((takeP h1 h4).trans (name_stp (takeP h1 h4).ok)).ts, h2]; exact hlen) (by rw [((takeP h1 h4).trans (name_stp (takeP h1 h4).ok)).ts, h2]; exact hN)))
open dt (Dt Kp RowAt Ow Grow)
theorem there_new (w : World) (cs : Array Value) (t : TypeId) (W : World) (hb : Below (w.alloc (.cells cs t)).heap.size (w.alloc (.cells cs t)) W) : W.there w.heap.size 0 cs.size :=
 dt.there_cells ((hb.block w.heap.size (by simp)).trans (heap_alloc_new w _)) (by simp)

theorem infoNt : (Tryz.prog.info? 54).map (·.size) = some 3 := by kernel_rfl
set_option maxRecDepth 4000 in
theorem fault_ok (v : Value) (w : World) (Q : List Value → World → Prop) (hT : ∀ W, Below w.heap.size w W → w.heap.size < W.heap.size → Calls Tryz.prog 33 #[v] W fun e w' => ∃ k a n c, e = .returned (.agg #[.int .i64 k, .slice a n c, .slice none 0 0]) ∧ Q [.int .i64 k, .slice a n c, .slice none 0 0] w' ∧ Below W.heap.size W w')
  (hQ : ∀ cs w1 w2, Q cs w1 → Below w1.heap.size w1 w2 → Q cs w2) (hQ2 : ∀ cs w1 vs, Q cs w1 → Q cs (w1.setCells w.heap.size 0 vs)) :
  Calls Tryz.prog 22 #[v] w fun e w' => ∃ k a n c, e = .returned (.tuple #[.agg #[.int .i64 k, .slice a n c, .slice none 0 0], .bool (k != 0)]) ∧ Q [.int .i64 k, .slice a n c, .slice none 0 0] w' ∧ Below w.heap.size w w' := by
 have bA := Hi (fun o => show Below w.heap.size w (w.alloc o) from ba)
 have HT := Hi hT
 have H1 := Hi hQ
 have H2 := Hi hQ2
 clear hT hQ hQ2
 go_enter Tryz.func22, Tryz.ntmps22
 go_wp2_with fail
 refine ((uh HT) _ ((uh bA) _) (by simp)).mono ?_
 rintro e w1 ⟨k, a, n, c, rfl, hq, b1⟩
 have bw1 := ((uh bA) _).trans (b1.mono ((uh bA) _).size)
 have hz1 : w.heap.size < w1.heap.size := by have := b1.size; simp at this; omega
 obtain ⟨Y, hY⟩ : ∃ Y, Y = w1.alloc (.cells #[.int .i64 k, .slice a n c, .slice none 0 0] 29) := ⟨_, rfl⟩
 have bY : Below w1.heap.size w1 Y := by rw [hY]; exact ba
 have hYc : Y.heap[w1.heap.size]? = some (.cells #[.int .i64 k, .slice a n c, .slice none 0 0] 29 (0, 0)) := by rw [hY]; exact heap_alloc_new w1 _
 have hYs : w1.heap.size < Y.heap.size := by rw [hY]; simp
 have b1Y := b1.trans (bY.mono b1.size)
 have bwY := bw1.trans (bY.mono bw1.size)
 have HQ := (uh H1) _ _ Y hq bY
 go_wp2_with fail
 rw [← hY]
 clear hY b1 bw1 hq HT bA bY
 have bD : Below Y.heap.size Y { Y with drawn := Y.drawn + 1 } := (Below.refl _ _).drew
 have hS0 : Below w.heap.size w { Y with drawn := Y.drawn + 1 } ∧ ({ Y with drawn := Y.drawn + 1 } : World).heap[w1.heap.size]? = some (.cells #[.int .i64 k, .slice a n c, .slice none 0 0] 29 (0, 0)) := ⟨bwY.trans (bD.mono bwY.size), (bD.block _ hYs).trans hYc⟩
 have hth : ({ Y with drawn := Y.drawn + 1 } : World).there w.heap.size 0 3 := there_new w #[.int .i64 0, .slice none 0 0, .slice none 0 0] 29 _ (b1Y.trans (bD.mono b1Y.size))
 have HQ2 := (uh H1) _ _ { Y with drawn := Y.drawn + 1 } HQ bD
 refine wp_region_noPanic ?_
 refine wp_region_held (S := fun w' => Below w.heap.size w w' ∧ w'.heap[w1.heap.size]? = some (.cells #[.int .i64 k, .slice a n c, .slice none 0 0] 29 (0, 0))) mixed ?_
 refine rgn.tl (i := 0) (v := ?v1) rfl (by kernel_rfl) (fun _ _ _ h => h) (by rfl) ?hy1 hS0 ?_
 case hy1 => (intro w' hw'; have q0 := (dt.cell_cells hw'.2 0).trans rfl; have q1 := (dt.cell_cells hw'.2 1).trans rfl; have q2 := (dt.cell_cells hw'.2 2).trans rfl; go_simp; try with_reducible rfl)
 simp only [zA, zB, zC, Act.put, zD, zE, zF]
 refine rgn.tl (i := 1) (v := ?v2) rfl (by kernel_rfl) (fun _ _ _ h => h) (by rfl) ?hy2 hS0 ?_
 case hy2 => (intro w' hw'; go_simp; try with_reducible rfl)
 simp only [zA, zB, zC, Act.put, zD, zE, zF]
 refine rgn.tl (i := 2) (v := ?v3) rfl (by kernel_rfl) (fun _ _ _ h => h) (by rfl) ?hy3 hS0 ?_
 case hy3 => (intro w' hw'; have q0 := (dt.cell_cells hw'.2 0).trans rfl; go_simp; try with_reducible rfl)
 simp only [zA, zB, zC, Act.put, zD, zE, zF]
 refine rgn.tl (i := 3) (v := ?v4) rfl (by kernel_rfl) (fun _ _ _ h => h) (by rfl) ?hy4 hS0 ?_
 case hy4 => (intro w' hw'; go_simp; try with_reducible rfl)
 simp only [zA, zB, zC, Act.put, zD, zE, zF]
 refine rgn.one (i := 4) _ rfl (by kernel_rfl) (by rfl) ?_
 simp only [zA, zB, zC, Act.put, zD, zE, zF]
 refine wp_store_mid 29 _ _ (by rfl) w.heap.size 0 #[.int .i64 k, .slice a n c, .slice none 0 0] (by rfl) (by rfl) hth infoFl (dt.one_cells (cs := [.int .i64 k, .slice a n c, .slice none 0 0]) (by rfl)) ?_
 have hS3 : Below w.heap.size w (({ Y with drawn := Y.drawn + 1 } : World).setCells w.heap.size 0 [.int .i64 k, .slice a n c, .slice none 0 0]) ∧ (({ Y with drawn := Y.drawn + 1 } : World).setCells w.heap.size 0 [.int .i64 k, .slice a n c, .slice none 0 0]).heap[w1.heap.size]? = some (.cells #[.int .i64 k, .slice a n c, .slice none 0 0] 29 (0, 0)) := ⟨dt.below_setCells _ _ _ _ hS0.1 (Nat.le_refl _), (dt.heap_setCells w.heap.size w1.heap.size (by omega) _ 0 _).trans hS0.2⟩
 refine ⟨hS3, ?_⟩
 clear hS0
 have hS0 := hS3
 try simp only [zA, zB, zC, Act.put, zD, zE, zF]
 refine rgn.take (i := 5) _ (.bool (k != 0)) rfl (by kernel_rfl) (by kernel_rfl) (by kernel_rfl) (fun _ _ _ h => h) (by rfl) hS0 (fun w' hw' => by go_simp) ?_
 simp only [zA, zB, zC, Act.put, zD, zE, zF]
 refine wpAnyH_done (by kernel_rfl) ?_ _; refine NoPanic.normal ?_
 go_wp2_with fail
 refine bodyPost_ret (rgn.result_row_tmp rfl _ _ w.heap.size 0 [.int .i64 k, .slice a n c, .slice none 0 0] _ rfl (World.rangeAt_setCells_same _ _ _ _ hth) Tryz.underlying29 rfl infoFl) rfl ?_
 exact ⟨k, a, n, c, rfl, (uh H2) _ _ _ HQ2, hS3.1⟩
structure CurN (N : Nat) (w : World) (B p : Nat) (c : Cu) : Prop where
 at_ : CurAt w B p c
 n : c.ts.length ≤ N
 m : c.ts.length ≤ 4294967296
section
variable {N : Nat} {w w' : World} {B p : Nat} {c c' : Cu}
theorem CurN.lt (h : CurN N w B p c) : B < w.heap.size := h.at_.lt
theorem CurN.plt (h : CurN N w B p c) : p < w.heap.size := h.at_.plt
theorem CurN.below (h : CurN N w B p c) (hb : Below w.heap.size w w') : CurN N w' B p c := ⟨h.at_.below hb, h.n, h.m⟩
theorem CurN.out (h : CurN N w B p c) {b : Nat} (hb : B ≠ b) (hp : p ≠ b) (o : Nat) (vs : List Value) : CurN N (w.setCells b o vs) B p c := ⟨h.at_.out hb hp o vs, h.n, h.m⟩
theorem CurN.outC (h : CurN N w B p c) {b : Nat} (hb : B ≠ b) (hp : p ≠ b) (o : Nat) (v : Value) : CurN N (w.setCell ⟨b, o, none⟩ v) B p c := h.out hb hp o [v]
theorem CurN.low {lo : Nat} (h : CurN N w B p c) (hb : Below lo w w') (h1 : B < lo) (h2 : p < lo) : CurN N w' B p c := ⟨h.at_.low hb h1 h2, h.n, h.m⟩
theorem CurN.next (h : CurN N w B p c) (k : CurAt w' B p c') (s : Stp c c') : CurN N w' B p c' := ⟨k, by rw [s.ts]; exact h.n, by rw [s.ts]; exact h.m⟩
theorem CurN.len (h : CurN N w B p c) : c.ts.length ≤ 1099511627777 := h.at_.len
end
theorem bnd_eq {A X : Type} {E : Cu → A × Cu} {F : A → Cu → X × Cu} {c c' : Cu} {a : A} (h : E c = (a, c')) : bnd E F c = F a c' := by unfold bnd; rw [h]
theorem cond_tt {A : Type} {E F : Cu → A × Cu} {c : Cu} {x : A × Cu} (h : E c = x) : (cond true E F) c = x := h
theorem cond_ff {A : Type} {E F : Cu → A × Cu} {c : Cu} {x : A × Cu} (h : F c = x) : (cond false E F) c = x := h
theorem ret_eq {A : Type} (a : A) (c : Cu) : ret a c = (a, c) := rfl
structure Ho (w : World) (d : Dt) (cs : List Value) (F : List Nat) (lo hi : Nat) : Prop where
 ow : Ow w d cs F
 nd : F.Nodup
 rng : ∀ b ∈ F, lo ≤ b ∧ b < hi
 hi : hi ≤ w.heap.size
theorem Ho.agree {w w' : World} {d : Dt} {cs : List Value} {F : List Nat} {lo hi : Nat} (h : Ho w d cs F lo hi) (hs : w.heap.size ≤ w'.heap.size) (ha : dt.Agree F w w') : Ho w' d cs F lo hi := ⟨Ow.agree d cs F ha h.ow, h.nd, h.rng, Nat.le_trans h.hi hs⟩
theorem Ho.kp {w w' : World} {d : Dt} {cs : List Value} {F : List Nat} {lo hi B : Nat} (h : Ho w d cs F lo hi) (hk : Kp B w w') (hB : B < lo) : Ho w' d cs F lo hi :=
 h.agree hk.size (fun b hb j => dt.cell_blk (hk.block b (Nat.lt_of_lt_of_le (h.rng b hb).2 h.hi) (by have := (h.rng b hb).1; omega)) j)
theorem Ho.out {w : World} {d : Dt} {cs : List Value} {F : List Nat} {lo hi b : Nat} (h : Ho w d cs F lo hi) (hb : b < lo ∨ hi ≤ b) (o : Nat) (vs : List Value) : Ho (w.setCells b o vs) d cs F lo hi :=
 h.agree (by rw [dt.size_setCells]; exact Nat.le_refl _) (fun x hx j => dt.cell_blk (dt.heap_setCells b x (by have := h.rng x hx; intro e; subst e; omega) vs o w) j)
theorem Ho.outC {w : World} {d : Dt} {cs : List Value} {F : List Nat} {lo hi b : Nat} (h : Ho w d cs F lo hi) (hb : b < lo ∨ hi ≤ b) (o : Nat) (v : Value) : Ho (w.setCell ⟨b, o, none⟩ v) d cs F lo hi := h.out hb o [v]
section
variable {w : World} {r v : Dt} {cs cs1 : List Value} {F F1 : List Nat} {lo mid hi : Nat}
theorem Ho.nil (h : hi ≤ w.heap.size) : Ho w .nil [] [] lo hi := ⟨by unfold Ow; exact ⟨rfl, rfl⟩, List.nodup_nil, by simp, h⟩
theorem Ho.val {x : Value} (hx : x.oneCell' = true) (h : Ho w r cs F lo hi) : Ho w (.val x r) (x :: cs) F lo hi := ⟨by unfold Ow; exact ⟨_, rfl, hx, h.ow⟩, h.nd, h.rng, h.hi⟩
theorem join_nd (n1 : F1.Nodup) (n2 : F.Nodup) (r1 : ∀ b ∈ F1, lo ≤ b ∧ b < mid) (r2 : ∀ b ∈ F, mid ≤ b ∧ b < hi) : (F1 ++ F).Nodup := by
 rw [List.nodup_append]
 exact ⟨n1, n2, fun x hx y hy e => by have := r1 x hx; have := r2 y hy; omega⟩
theorem join_rng (r1 : ∀ b ∈ F1, lo ≤ b ∧ b < mid) (r2 : ∀ b ∈ F, mid ≤ b ∧ b < hi) (h1 : lo ≤ mid) (h2 : mid ≤ hi) : ∀ b ∈ F1 ++ F, lo ≤ b ∧ b < hi := fun b hb => by
 rcases List.mem_append.1 hb with hb | hb
 ·have := r1 b hb; omega
 ·have := r2 b hb; omega
theorem Ho.lst {k : Nat} {l : List Dt} {a : Option Addr} {n c lo' hi' : Nat} (s : Sh w k l lo' hi' a n c F1) (h : Ho w r cs F mid hi) (h1 : lo ≤ lo') (h2 : hi' ≤ mid) (h3 : lo ≤ mid) (h4 : mid ≤ hi) : Ho w (.lst k (Dt.of l) r) (.slice a n c :: cs) (F1 ++ F) lo hi := by
 have r1 : ∀ b ∈ F1, lo ≤ b ∧ b < mid := fun b hb => by have := s.rng b hb; omega
 exact ⟨s.ow h.ow, join_nd s.nd h.nd r1 h.rng, join_rng r1 h.rng h3 h4, h.hi⟩
theorem Ho.app {lo' hi' : Nat} (s : Ho w v cs1 F1 lo' hi') (h : Ho w r cs F mid hi) (h1 : lo ≤ lo') (h2 : hi' ≤ mid) (h3 : lo ≤ mid) (h4 : mid ≤ hi) : Ho w (app v r) (cs1 ++ cs) (F1 ++ F) lo hi := by
 have r1 : ∀ b ∈ F1, lo ≤ b ∧ b < mid := fun b hb => by have := s.rng b hb; omega
 exact ⟨ow_app v _ _ _ F1 _ s.ow h.ow, join_nd s.nd h.nd r1 h.rng, join_rng r1 h.rng h3 h4, h.hi⟩
theorem Ho.mono {lo' hi' : Nat} (h : Ho w r cs F lo hi) (h1 : lo' ≤ lo) (h2 : hi ≤ hi') (h3 : hi' ≤ w.heap.size) : Ho w r cs F lo' hi' := ⟨h.ow, h.nd, fun b hb => by have := h.rng b hb; omega, h3⟩
theorem zero_ho (w : World) (lo : Nat) : Ho w zeroD [.int .i64 0, .string em, .bool false, .slice none 0 0, .slice none 0 0, .int .i64 0, .int .i64 0] [] lo 0 := ⟨leaf_ow w 0 em false 0 0, List.nodup_nil, by simp, Nat.zero_le _⟩
end
section
variable {N B p : Nat} {c : Cu} {w : World}
theorem dirs_ct (h : CurN N w B p c) : Calls Tryz.prog 106 #[.pointer (some ⟨B, 0, none⟩), .bool true] w fun e w' => ∃ (r : Option (List Dt)) (c' : Cu) (a : Option Addr) (n cp : Nat) (F : List Nat) (ok : Bool), dirs (litF true N) c = (r, c') ∧ e = .returned (.tuple #[.slice a n cp, .bool ok]) ∧ Sh w' 4 (r.getD []) w.heap.size w'.heap.size a n cp F ∧ CurN N w' B p c' ∧ Kp B w w' := by
 have := dirs_all true N c h.at_.ok h.len h.n B p w h.at_
 unfold ptr at this
 refine this.mono ?_
 rintro e w' ⟨sl, rfl, hb, hc, hk⟩
 obtain ⟨a, n, cp, F, rfl, hs⟩ := brkD_full hb
 exact ⟨_, _, a, n, cp, F, _, rfl, rfl, hs, h.next hc (dirs_stp (litF_goes true N) h.at_.ok), hk⟩
theorem lit_ct (h : CurN N w B p c) : Calls Tryz.prog 140 #[.pointer (some ⟨B, 0, none⟩), .bool true] w fun e w' => ∃ (r : Option Dt) (c' : Cu) (k : Int) (tx : ByteArray) (bl : Bool) (a1 : Option Addr) (n1 c1 : Nat) (a2 : Option Addr) (n2 c2 : Nat) (l1 o1 : Int) (F : List Nat) (ok : Bool), litF true N c = (r, c') ∧ e = .returned (.tuple #[.agg #[.int .i64 k, .string tx, .bool bl, .slice a1 n1 c1, .slice a2 n2 c2, .int .i64 l1, .int .i64 o1], .bool ok]) ∧ Ho w' (r.getD zeroD) [.int .i64 k, .string tx, .bool bl, .slice a1 n1 c1, .slice a2 n2 c2, .int .i64 l1, .int .i64 o1] F w.heap.size w'.heap.size ∧ CurN N w' B p c' ∧ Kp B w w' := by
 have := litF_ok true N c h.at_.ok h.len (Nat.le_trans h.n (Nat.le_add_right _ _)) B p w h.at_
 unfold ptr at this
 refine this.mono ?_
 rintro e w' ⟨cs, F, rfl, hpo, hc, hk⟩
 obtain ⟨k, tx, bl, a1, n1, c1, a2, n2, c2, l1, o1, rfl⟩ := hpo.shape
 exact ⟨_, _, k, tx, bl, a1, n1, c1, a2, n2, c2, l1, o1, F, _, rfl, rfl, ⟨hpo.own, hpo.nodup, hpo.rng, Nat.le_refl _⟩, h.next hc (litF_goes true N c h.at_.ok).1, hk⟩
theorem typ_ct (h : CurN N w B p c) : Calls Tryz.prog 137 #[.pointer (some ⟨B, 0, none⟩)] w fun e w' => ∃ (r : Option (ByteArray × ByteArray)) (tn tw : ByteArray) (c' : Cu) (ok : Bool), typF N c = (r, c') ∧ tyN r = tn ∧ tyW r = tw ∧ e = .returned (.tuple #[.agg #[.string tn, .string tw], .bool ok]) ∧ CurN N w' B p c' ∧ Kp B w w' := by
 have := typF_ok N c h.at_.ok h.len (Nat.le_trans h.n (Nat.le_add_right _ _)) B p w h.at_
 unfold ptr at this
 refine this.mono ?_
 rintro e w' ⟨rfl, hc, hk⟩
 exact ⟨_, _, _, _, _, rfl, rfl, rfl, rfl, h.next hc (typF_goes N c h.at_.ok).1, hk⟩
theorem want_ct (q : ByteArray) (h : CurN N w B p c) : Calls Tryz.prog 120 #[.pointer (some ⟨B, 0, none⟩), .string q] w fun e w' => ∃ (c' : Cu) (ok : Bool), wantR q c = ((), c') ∧ e = .returned (.bool ok) ∧ CurN N w' B p c' ∧ Kp B w w' := by
 have := want_ok B p c q w h.at_
 unfold ptr at this
 refine this.mono ?_
 rintro e w' ⟨rfl, hc, hk⟩
 exact ⟨_, _, rfl, rfl, h.next hc (want_stp h.at_.ok q), hk⟩
theorem punct_ct (q : ByteArray) (h : CurN N w B p c) : Calls Tryz.prog 115 #[.pointer (some ⟨B, 0, none⟩), .string q] w fun e w' => ∃ (c' : Cu) (b : Bool), punctR q c = (b, c') ∧ e = .returned (.bool b) ∧ CurN N w' B p c' ∧ Kp B w w' := by
 have := punct_ok B p c q w h.at_
 unfold ptr at this
 refine this.mono ?_
 rintro e w' ⟨rfl, hc, hk⟩
 exact ⟨_, _, rfl, rfl, h.next hc (punct_stp h.at_.ok q), hk⟩
theorem word_ct (q : ByteArray) (h : CurN N w B p c) : Calls Tryz.prog 48 #[.pointer (some ⟨B, 0, none⟩), .string q] w fun e w' => ∃ (c' : Cu) (b : Bool), wordR q c = (b, c') ∧ e = .returned (.bool b) ∧ CurN N w' B p c' ∧ Kp B w w' := by
 have := wordW_ok B p c q w h.at_
 unfold ptr at this
 refine this.mono ?_
 rintro e w' ⟨rfl, hc, hk⟩
 exact ⟨_, _, rfl, rfl, h.next hc (wordR_st q c h.at_.ok), hk⟩
theorem isP_ct (q : ByteArray) (h : CurN N w B p c) : Calls Tryz.prog 107 #[.pointer (some ⟨B, 0, none⟩), .string q] w fun e w' => ∃ (b : Bool), isPR q c = (b, c) ∧ e = .returned (.bool b) ∧ CurN N w' B p c ∧ Kp B w w' := by
 have := isPunct_ok B p c q w h.at_
 unfold ptr at this
 refine this.mono ?_
 rintro e w' ⟨rfl, hb⟩
 exact ⟨_, rfl, rfl, h.below hb, Kp.of hb⟩
theorem name0_ct (h : CurN N w B p c) : Calls Tryz.prog 135 #[.pointer (some ⟨B, 0, none⟩), .slice none 0 0] w fun e w' => ∃ (nm : ByteArray) (ln co : Int) (c' : Cu) (ok : Bool), namR c = ((nm, ln, co), c') ∧ e = .returned (.tuple #[.agg #[.string nm, .int .i64 ln, .int .i64 co], .bool ok]) ∧ CurN N w' B p c' ∧ Kp B w w' := by
 have := nameAny_ok B p c w h.at_
 unfold ptr at this
 refine this.mono ?_
 rintro e w' ⟨rfl, hc, hk⟩
 have hn := h.next hc (name_stp h.at_.ok)
 unfold namR nm3 Cu.nmT
 cases c.isN
 ·exact ⟨_, _, _, _, _, rfl, rfl, hn, hk⟩
 ·exact ⟨_, _, _, _, _, rfl, rfl, hn, hk⟩
theorem but_ct {b n cp : Nat} {ws : List ByteArray} (hw : Wds w b n cp ws) (hn : n ≤ 1048576) (h : CurN N w B p c) : Calls Tryz.prog 135 #[.pointer (some ⟨B, 0, none⟩), .slice (some ⟨b, 0, none⟩) n cp] w fun e w' => ∃ (nm : ByteArray) (ln co : Int) (c' : Cu) (ok : Bool), butN ws c = ((nm, ln, co), c') ∧ e = .returned (.tuple #[.agg #[.string nm, .int .i64 ln, .int .i64 co], .bool ok]) ∧ CurN N w' B p c' ∧ Kp B w w' := by
 have := nameBut_ok B p c b n cp ws w h.at_ hw hn
 unfold ptr at this
 refine this.mono ?_
 rintro e w' ⟨rfl, hc, hk⟩
 have hn := h.next hc (butR_st ws c h.at_.ok)
 unfold butN nm3
 unfold nmV
 revert hn
 cases (c.isN && !inW ws c.tok.tx) <;> exact fun hn => ⟨_, _, _, _, _, rfl, rfl, hn, hk⟩
theorem ww_ct {b n cp : Nat} {ws : List ByteArray} (hw : Wds w b n cp ws) (hn : n ≤ 1048576) (h : CurN N w B p c) : Calls Tryz.prog 121 #[.pointer (some ⟨B, 0, none⟩), .slice (some ⟨b, 0, none⟩) n cp] w fun e w' => ∃ (nm : ByteArray) (ln co : Int) (c' : Cu) (ok : Bool), wwN ws c = ((nm, ln, co), c') ∧ e = .returned (.tuple #[.agg #[.string nm, .int .i64 ln, .int .i64 co], .bool ok]) ∧ CurN N w' B p c' ∧ Kp B w w' := by
 have := wantWord_ok B p c b n cp ws w h.at_ hw hn
 unfold ptr at this
 refine this.mono ?_
 rintro e w' ⟨rfl, hc, hk⟩
 have hn := h.next hc (wwR_st ws c h.at_.ok)
 unfold wwN nm3
 unfold nmV
 revert hn
 cases c.isW ws <;> exact fun hn => ⟨_, _, _, _, _, rfl, rfl, hn, hk⟩
theorem refuse_ct (h : CurN N w B p c) : Calls Tryz.prog 51 #[.pointer (some ⟨B, 0, none⟩)] w fun e w' => e = .returned (.tuple #[]) ∧ CurN N w' B p (c.stop 70) ∧ Kp B w w' := by
 have := refuse0_ok B p c w h.at_
 unfold ptr at this
 refine this.mono ?_
 rintro e w' ⟨rfl, hc, hk⟩
 exact ⟨rfl, h.next hc (stop_stp h.at_.ok 70), hk⟩
theorem faultC_ok (B p : Nat) (c : Cu) (w : World) (h : CurAt w B p c) : Calls Tryz.prog 22 #[ptr B] w fun e w' => ∃ k a n cp, e = .returned (.tuple #[.agg #[.int .i64 k, .slice a n cp, .slice none 0 0], .bool (k != 0)]) ∧ FltAt (w.heap.size + 1) w' c [.int .i64 k, .slice a n cp, .slice none 0 0] ∧ Below w.heap.size w w' := by
 refine fault_ok (ptr B) w (fun cs W => FltAt (w.heap.size + 1) W c cs) (fun W bb hlt => ?_) (fun cs w1 w2 hq bb => ?_) (fun cs w1 vs hq => ?_)
 ·refine (told_ok B p c W (h.below bb)).mono ?_
  rintro e w' ⟨fs, rfl, hf, b⟩
  unfold FltAt at hf
  by_cases hk : c.kd = 0
  ·rw [if_pos hk] at hf
   subst hf
   exact ⟨0, none, 0, 0, rfl, by unfold FltAt; rw [if_pos hk], b⟩
  ·rw [if_neg hk] at hf
   obtain ⟨x, y1, y2, rfl, y4, y5⟩ := hf
   exact ⟨c.kd, _, 1, 1, rfl, by unfold FltAt; rw [if_neg hk]; exact ⟨x, by omega, y2, rfl, y4, y5⟩, b⟩
 ·unfold FltAt at hq ⊢
  split
  ·rename_i hk; rw [if_pos hk] at hq; exact hq
  ·rename_i hk
   rw [if_neg hk] at hq
   obtain ⟨x, y1, y2, y3, y4, y5⟩ := hq
   exact ⟨x, y1, Nat.lt_of_lt_of_le y2 bb.size, y3, (bb.cell (p := ⟨x, 0, none⟩) y2).trans y4, (bb.cell (p := ⟨x, 1, none⟩) y2).trans y5⟩
 ·unfold FltAt at hq ⊢
  split
  ·rename_i hk; rw [if_pos hk] at hq; exact hq
  ·rename_i hk
   rw [if_neg hk] at hq
   obtain ⟨x, y1, y2, y3, y4, y5⟩ := hq
   exact ⟨x, y1, by rw [dt.size_setCells]; exact y2, y3, (dt.cell_blk (dt.heap_setCells w.heap.size x (by omega) vs 0 w1) _).trans y4, (dt.cell_blk (dt.heap_setCells w.heap.size x (by omega) vs 0 w1) _).trans y5⟩
end
end Go.Proofs.YtifbkdicglcogaaGreat.cu
