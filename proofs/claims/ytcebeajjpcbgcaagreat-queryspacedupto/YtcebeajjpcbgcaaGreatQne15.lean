import Derived.Test.YtcebeajjpcbgcaaGreatQne14
set_option linter.unusedVariables false
set_option linter.unusedSimpArgs false
namespace Go.Proofs.YtcebeajjpcbgcaaGreat.cu
open Go.ChangeShapes Go.WideShapes Go.ChangeAt Go.RowKit
open ints (hide unhide)
open dt (Dt Kp RowAt Ow Grow OwIn)
open mem (Row)
structure Sh (w : World) (k : Nat) (l : List Dt) (lo hi : Nat) (a : Option Addr) (n c : Nat) (F : List Nat) : Prop where
 nc : n ≤ c
 cm : c ≤ maxLen
 no : a = none → c = 0
 nd : F.Nodup
 rng : ∀ b ∈ F, lo ≤ b ∧ b < hi
 hi : hi ≤ w.heap.size
 len : n = l.length
 at_ : (a = none ∧ Dt.of l = .nil ∧ n = 0 ∧ F = []) ∨ ∃ p G', a = some ⟨p, 0, none⟩ ∧ F = p :: G' ∧ OwIn w (Dt.of l) k p 0 n G'
theorem Sh.of {t : TypeId} {k : Nat} {w : World} {lo : Nat} {l : List Dt} {sl : Value} {G : List Nat} (h : Grow t k w lo l sl G) : ∃ a n c F, sl = .slice a n c ∧ Sh w k l lo w.heap.size a n c F := by
 obtain ⟨a, n, c, F, rfl, h1, h2, h3, h4, h5, h6, h7⟩ := h.shut
 exact ⟨a, n, c, F, rfl, h1, h2, h3, h4, h5, Nat.le_refl _, h6, h7⟩
theorem Sh.nil {w : World} {k lo hi : Nat} (h : hi ≤ w.heap.size) : Sh w k [] lo hi none 0 0 [] := ⟨Nat.le_refl _, Nat.zero_le _, fun _ => rfl, List.nodup_nil, by simp, h, rfl, .inl ⟨rfl, rfl, rfl, rfl⟩⟩
theorem Sh.agree {w w' : World} {k : Nat} {l : List Dt} {lo hi : Nat} {a : Option Addr} {n c : Nat} {F : List Nat} (h : Sh w k l lo hi a n c F) (hs : w.heap.size ≤ w'.heap.size) (ha : dt.Agree F w w') : Sh w' k l lo hi a n c F := by
 refine ⟨h.nc, h.cm, h.no, h.nd, h.rng, Nat.le_trans h.hi hs, h.len, ?_⟩
 rcases h.at_ with x | ⟨p, G, e, rfl, x⟩
 ·exact .inl x
 ·exact .inr ⟨p, G, e, rfl, OwIn.agree _ k p 0 n G ha x⟩
theorem Sh.kp {w w' : World} {k : Nat} {l : List Dt} {lo hi B : Nat} {a : Option Addr} {n c : Nat} {F : List Nat} (h : Sh w k l lo hi a n c F) (hk : Kp B w w') (hB : B < lo) : Sh w' k l lo hi a n c F :=
 h.agree hk.size (fun b hb j => dt.cell_blk (hk.block b (Nat.lt_of_lt_of_le (h.rng b hb).2 h.hi) (by have := (h.rng b hb).1; omega)) j)
theorem Sh.out {w : World} {k : Nat} {l : List Dt} {lo hi b : Nat} {a : Option Addr} {n c : Nat} {F : List Nat} (h : Sh w k l lo hi a n c F) (hb : b < lo ∨ hi ≤ b) (o : Nat) (vs : List Value) : Sh (w.setCells b o vs) k l lo hi a n c F :=
 h.agree (by rw [dt.size_setCells]; exact Nat.le_refl _) (fun x hx j => dt.cell_blk (dt.heap_setCells b x (by have := h.rng x hx; intro e; subst e; omega) vs o w) j)
theorem Sh.ow {w : World} {k : Nat} {l : List Dt} {lo hi : Nat} {a : Option Addr} {n c : Nat} {F : List Nat} (h : Sh w k l lo hi a n c F) {r : Dt} {ds : List Value} {F2 : List Nat} (hr : Ow w r ds F2) : Ow w (.lst k (Dt.of l) r) (.slice a n c :: ds) (F ++ F2) := by
 unfold Ow
 exact ⟨a, n, c, ds, F, F2, rfl, h.nc, h.cm, h.no, h.at_, hr, rfl⟩
theorem Sh.nodup {w : World} {k1 k2 k3 : Nat} {l1 l2 l3 : List Dt} {lo1 hi1 lo2 hi2 lo3 hi3 : Nat} {a1 a2 a3 : Option Addr} {n1 c1 n2 c2 n3 c3 : Nat} {F1 F2 F3 : List Nat} (h1 : Sh w k1 l1 lo1 hi1 a1 n1 c1 F1) (h2 : Sh w k2 l2 lo2 hi2 a2 n2 c2 F2) (h3 : Sh w k3 l3 lo3 hi3 a3 n3 c3 F3) (h12 : hi1 ≤ lo2) (h23 : hi2 ≤ lo3) (h22 : lo2 ≤ hi2) :
  (F1 ++ (F2 ++ F3)).Nodup ∧ ∀ b ∈ F1 ++ (F2 ++ F3), min lo1 (min lo2 lo3) ≤ b ∧ b < w.heap.size := by
 constructor
 ·rw [List.nodup_append]
  refine ⟨h1.nd, ?_, fun x hx y hy e => ?_⟩
  ·rw [List.nodup_append]
   exact ⟨h2.nd, h3.nd, fun x hx y hy e => by have := h2.rng x hx; have := h3.rng y hy; omega⟩
  ·have := h1.rng x hx
   rcases List.mem_append.1 hy with hy | hy
   ·have := h2.rng y hy; omega
   ·have := h3.rng y hy; omega
 ·intro b hb
  have i1 := h1.hi
  have i2 := h2.hi
  have i3 := h3.hi
  rcases List.mem_append.1 hb with hb | hb
  ·have := h1.rng b hb; omega
  ·rcases List.mem_append.1 hb with hb | hb
   ·have := h2.rng b hb; omega
   ·have := h3.rng b hb; omega
def par (B : Nat) : Value := .agg #[.pointer (some ⟨B, 0, none⟩)]
def selC (k : Int) (al nm on : ByteArray) (a1 : Option Addr) (n1 c1 : Nat) (a2 : Option Addr) (n2 c2 : Nat) (a3 : Option Addr) (n3 c3 : Nat) (ln co : Int) : List Value := [.int .i64 k, .string al, .string nm, .string on, .slice a1 n1 c1, .slice a2 n2 c2, .slice a3 n3 c3, .int .i64 ln, .int .i64 co]
structure SelPost (r : Option Dt) (w w' : World) (cs : List Value) (F : List Nat) : Prop where
 shape : ∃ k al nm on a1 n1 c1 a2 n2 c2 a3 n3 c3 ln co, cs = selC k al nm on a1 n1 c1 a2 n2 c2 a3 n3 c3 ln co
 own : ∀ d, r = some d → Ow w' d cs F ∧ F.Nodup ∧ ∀ b ∈ F, w.heap.size ≤ b ∧ b < w'.heap.size
theorem sel_ow {w : World} {l1 l2 l3 : List Dt} {lo1 hi1 lo2 hi2 lo3 hi3 : Nat} {a1 a2 a3 : Option Addr} {n1 c1 n2 c2 n3 c3 : Nat} {F1 F2 F3 : List Nat} (h1 : Sh w 10 l1 lo1 hi1 a1 n1 c1 F1) (h2 : Sh w 4 l2 lo2 hi2 a2 n2 c2 F2) (h3 : Sh w 9 l3 lo3 hi3 a3 n3 c3 F3) (h12 : hi1 ≤ lo2) (h23 : hi2 ≤ lo3) (h22 : lo2 ≤ hi2) (k : Int) (al nm on : ByteArray) (ln co : Int) (lo : Nat) (g1 : lo ≤ lo1) (g2 : lo ≤ lo2) (g3 : lo ≤ lo3) :
  ∃ F, Ow w (selD k al nm on l1 l2 l3 ln co) (selC k al nm on a1 n1 c1 a2 n2 c2 a3 n3 c3 ln co) F ∧ F.Nodup ∧ ∀ b ∈ F, lo ≤ b ∧ b < w.heap.size := by
 obtain ⟨nd, rg⟩ := Sh.nodup h1 h2 h3 h12 h23 h22
 have hp : Ow w (.val (.int .i64 ln) (.val (.int .i64 co) .nil)) [.int .i64 ln, .int .i64 co] [] := pos_ow _ _ _
 refine ⟨F1 ++ (F2 ++ F3), ?_, nd, fun b hb => by have := rg b hb; omega⟩
 have h5 := h1.ow (h2.ow (h3.ow hp))
 rw [List.append_nil] at h5
 unfold selD selC
 unfold Ow
 refine ⟨_, rfl, rfl, ?_⟩
 unfold Ow
 refine ⟨_, rfl, rfl, ?_⟩
 unfold Ow
 refine ⟨_, rfl, rfl, ?_⟩
 unfold Ow
 exact ⟨_, rfl, rfl, h5⟩
def SelFn (f : Nat) (E : Cu → Option Dt × Cu) (c : Cu) : Prop := ∀ (B p : Nat) (w : World), CurAt w B p c → Calls Tryz.prog f #[par B] w fun e w' => ∃ cs F, e = .returned (.tuple #[.agg cs.toArray, .bool (E c).1.isSome]) ∧ SelPost (E c).1 w w' cs F ∧ CurAt w' B p (E c).2 ∧ Kp B w w'
def SelPs (f : Nat) (E : Cu → Option Dt × Cu) (ln co : Int) (c : Cu) : Prop := ∀ (B p : Nat) (w : World), CurAt w B p c → Calls Tryz.prog f #[par B, .agg #[.int .i64 ln, .int .i64 co]] w fun e w' => ∃ cs F, e = .returned (.tuple #[.agg cs.toArray, .bool (E c).1.isSome]) ∧ SelPost (E c).1 w w' cs F ∧ CurAt w' B p (E c).2 ∧ Kp B w w'
def BrkPS (r : Option (List Dt)) (lo : Nat) (w' : World) (sl : Value) : Prop := match r with | none => sl = .slice none 0 0 | some l => ∃ G, Grow 57 9 w' lo l sl G
def SelsAt (S : Cu → Option (List Dt) × Cu) (c : Cu) : Prop := ∀ (B p : Nat) (w : World), CurAt w B p c → Calls Tryz.prog 53 #[par B] w fun e w' => ∃ sl, e = .returned (.tuple #[sl, .bool (S c).1.isSome]) ∧ BrkPS (S c).1 w.heap.size w' sl ∧ CurAt w' B p (S c).2 ∧ Kp B w w'
theorem infoSel : (Tryz.prog.info? 57).map (·.size) = some 9 := by kernel_rfl
def ShO (w : World) (k : Nat) (r : Option (List Dt)) (lo hi : Nat) (a : Option Addr) (n c : Nat) : Prop := ∀ l, r = some l → ∃ F, Sh w k l lo hi a n c F
theorem brkD_form {r : Option (List Dt)} {lo : Nat} {w : World} {sl : Value} (h : BrkPD r lo w sl) : ∃ a n c, sl = .slice a n c ∧ ShO w 4 r lo w.heap.size a n c := by
 unfold BrkPD at h
 cases r with
 | none => obtain ⟨a, n, c, rfl⟩ := h; exact ⟨a, n, c, rfl, fun l e => by cases e⟩
 | some l =>
  obtain ⟨G, hg⟩ := h
  obtain ⟨a, n, c, F, rfl, hs⟩ := Sh.of hg
  exact ⟨a, n, c, rfl, fun l' e => by obtain rfl := Option.some.inj e; exact ⟨F, hs⟩⟩
theorem brkA_form {r : Option (List Dt)} {lo : Nat} {w : World} {sl : Value} (hlo : lo ≤ w.heap.size) (h : BrkPA r lo w sl) : ∃ a n c F, sl = .slice a n c ∧ Sh w 10 (r.getD []) lo w.heap.size a n c F := by
 unfold BrkPA at h
 cases r with
 | none => subst h; exact ⟨none, 0, 0, [], rfl, Sh.nil (Nat.le_refl _)⟩
 | some l =>
  obtain ⟨G, hg⟩ := h
  obtain ⟨a, n, c, F, rfl, hs⟩ := Sh.of hg
  exact ⟨a, n, c, F, rfl, hs⟩
theorem brkS_form {r : Option (List Dt)} {lo : Nat} {w : World} {sl : Value} (h : BrkPS r lo w sl) : ∃ a n c F, sl = .slice a n c ∧ Sh w 9 (r.getD []) lo w.heap.size a n c F := by
 unfold BrkPS at h
 cases r with
 | none => subst h; exact ⟨none, 0, 0, [], rfl, Sh.nil (Nat.le_refl _)⟩
 | some l =>
  obtain ⟨G, hg⟩ := h
  obtain ⟨a, n, c, F, rfl, hs⟩ := Sh.of hg
  exact ⟨a, n, c, F, rfl, hs⟩
theorem three_at (w : World) (x0 : Array Value) (t0 : TypeId) (x1 : Array Value) (t1 : TypeId) (x2 : Array Value) (t2 : TypeId) :
  Below w.heap.size w (((w.alloc (.cells x0 t0)).alloc (.cells x1 t1)).alloc (.cells x2 t2)) ∧
  (((w.alloc (.cells x0 t0)).alloc (.cells x1 t1)).alloc (.cells x2 t2)).heap[w.heap.size]? = some (.cells x0 t0 (0, 0)) ∧
  (((w.alloc (.cells x0 t0)).alloc (.cells x1 t1)).alloc (.cells x2 t2)).heap[w.heap.size + 1]? = some (.cells x1 t1 (0, 0)) ∧
  (((w.alloc (.cells x0 t0)).alloc (.cells x1 t1)).alloc (.cells x2 t2)).heap[w.heap.size + 1 + 1]? = some (.cells x2 t2 (0, 0)) ∧
  (((w.alloc (.cells x0 t0)).alloc (.cells x1 t1)).alloc (.cells x2 t2)).heap.size = w.heap.size + 1 + 1 + 1 := by
 have b2 := (Below.refl (w.alloc (.cells x0 t0)).heap.size (w.alloc (.cells x0 t0))).alloc (Nat.le_refl _) (.cells x1 t1)
 have b3 := b2.alloc (by simp) (.cells x2 t2)
 refine ⟨(((Below.refl _ _).alloc (Nat.le_refl _) _).alloc (by simp) _).alloc (by simp; omega) _, ?_, ?_, ?_, by simp⟩
 ·exact (b3.block _ (by simp)).trans (heap_alloc_new w _)
 ·have h := heap_alloc_new (w.alloc (.cells x0 t0)) (.cells x1 t1)
  have e : (w.alloc (.cells x0 t0)).heap.size = w.heap.size + 1 := by simp
  rw [e] at h
  exact (Below.heap_alloc _ _ _ (by simp)).trans h
 ·have h := heap_alloc_new ((w.alloc (.cells x0 t0)).alloc (.cells x1 t1)) (.cells x2 t2)
  have e : ((w.alloc (.cells x0 t0)).alloc (.cells x1 t1)).heap.size = w.heap.size + 1 + 1 := by simp
  rw [e] at h
  exact h
theorem four_at (w : World) (x0 : Array Value) (t0 : TypeId) (x1 : Array Value) (t1 : TypeId) (x2 : Array Value) (t2 : TypeId) (x3 : Array Value) (t3 : TypeId) :
  Below w.heap.size w ((((w.alloc (.cells x0 t0)).alloc (.cells x1 t1)).alloc (.cells x2 t2)).alloc (.cells x3 t3)) ∧
  ((((w.alloc (.cells x0 t0)).alloc (.cells x1 t1)).alloc (.cells x2 t2)).alloc (.cells x3 t3)).heap[w.heap.size]? = some (.cells x0 t0 (0, 0)) ∧
  ((((w.alloc (.cells x0 t0)).alloc (.cells x1 t1)).alloc (.cells x2 t2)).alloc (.cells x3 t3)).heap[w.heap.size + 1]? = some (.cells x1 t1 (0, 0)) ∧
  ((((w.alloc (.cells x0 t0)).alloc (.cells x1 t1)).alloc (.cells x2 t2)).alloc (.cells x3 t3)).heap[w.heap.size + 1 + 1]? = some (.cells x2 t2 (0, 0)) ∧
  ((((w.alloc (.cells x0 t0)).alloc (.cells x1 t1)).alloc (.cells x2 t2)).alloc (.cells x3 t3)).heap[w.heap.size + 1 + 1 + 1]? = some (.cells x3 t3 (0, 0)) ∧
  ((((w.alloc (.cells x0 t0)).alloc (.cells x1 t1)).alloc (.cells x2 t2)).alloc (.cells x3 t3)).heap.size = w.heap.size + 1 + 1 + 1 + 1 := by
 obtain ⟨h1, h2, h3, h4, h5⟩ := three_at w x0 t0 x1 t1 x2 t2
 have hb := fun b (hb : b < (((w.alloc (.cells x0 t0)).alloc (.cells x1 t1)).alloc (.cells x2 t2)).heap.size) => Below.heap_alloc (((w.alloc (.cells x0 t0)).alloc (.cells x1 t1)).alloc (.cells x2 t2)) (.cells x3 t3) b hb
 have h := heap_alloc_new (((w.alloc (.cells x0 t0)).alloc (.cells x1 t1)).alloc (.cells x2 t2)) (.cells x3 t3)
 rw [h5] at h
 exact ⟨h1.alloc h1.size _, (hb _ (by omega)).trans h2, (hb _ (by omega)).trans h3, (hb _ (by omega)).trans h4, h, by simp⟩
def allocs (w : World) : List (Array Value × TypeId) → World
 | [] => w
 | x :: l => allocs (w.alloc (.cells x.1 x.2)) l
theorem allocs_size : ∀ (l : List (Array Value × TypeId)) (w : World), (allocs w l).heap.size = w.heap.size + l.length
 | [], w => rfl
 | x :: l, w => by rw [allocs, allocs_size l]; simp; omega
theorem allocs_below : ∀ (l : List (Array Value × TypeId)) (w : World), Below w.heap.size w (allocs w l)
 | [], w => Below.refl _ _
 | x :: l, w => ((Below.refl _ _).alloc (Nat.le_refl _) _).trans ((allocs_below l _).mono (by simp))
theorem allocs_at : ∀ (l : List (Array Value × TypeId)) (w : World) (i : Nat) (x : Array Value × TypeId), l[i]? = some x → (allocs w l).heap[w.heap.size + i]? = some (.cells x.1 x.2 (0, 0))
 | [], w, i, x, h => by simp at h
 | y :: l, w, 0, x, h => by
  simp at h
  subst h
  exact ((allocs_below l _).block _ (by simp)).trans (heap_alloc_new w _)
 | y :: l, w, i + 1, x, h => by
  have := allocs_at l (w.alloc (.cells y.1 y.2)) i x (by simpa using h)
  rw [World.size_alloc, Nat.add_assoc, Nat.add_comm 1 i] at this
  exact this
theorem _root_.Go.Proofs.YtcebeajjpcbgcaaGreat.dt.Kp.setB {B : Nat} {w w1 : World} (h : Kp B w w1) {b : Nat} (hb : w.heap.size ≤ b) (o : Nat) (v : Value) : Kp B w (w1.setCell ⟨b, o, none⟩ v) := h.out hb o [v]
theorem CurAt.outC {w : World} {B p : Nat} {c : Cu} (h : CurAt w B p c) {b : Nat} (hb : B ≠ b) (hp : p ≠ b) (o : Nat) (v : Value) : CurAt (w.setCell ⟨b, o, none⟩ v) B p c := h.out hb hp o [v]
theorem Sh.outC {w : World} {k : Nat} {l : List Dt} {lo hi b : Nat} {a : Option Addr} {n c : Nat} {F : List Nat} (h : Sh w k l lo hi a n c F) (hb : b < lo ∨ hi ≤ b) (o : Nat) (v : Value) : Sh (w.setCell ⟨b, o, none⟩ v) k l lo hi a n c F := h.out hb o [v]
theorem ShO.kp {w w' : World} {k : Nat} {r : Option (List Dt)} {lo hi B : Nat} {a : Option Addr} {n c : Nat} (h : ShO w k r lo hi a n c) (hk : Kp B w w') (hB : B < lo) : ShO w' k r lo hi a n c := fun l e => let ⟨F, x⟩ := h l e; ⟨F, x.kp hk hB⟩
theorem ShO.out {w : World} {k : Nat} {r : Option (List Dt)} {lo hi b : Nat} {a : Option Addr} {n c : Nat} (h : ShO w k r lo hi a n c) (hb : b < lo ∨ hi ≤ b) (o : Nat) (vs : List Value) : ShO (w.setCells b o vs) k r lo hi a n c := fun l e => let ⟨F, x⟩ := h l e; ⟨F, x.out hb o vs⟩
theorem ShO.outC {w : World} {k : Nat} {r : Option (List Dt)} {lo hi b : Nat} {a : Option Addr} {n c : Nat} (h : ShO w k r lo hi a n c) (hb : b < lo ∨ hi ≤ b) (o : Nat) (v : Value) : ShO (w.setCell ⟨b, o, none⟩ v) k r lo hi a n c := h.out hb o [v]
theorem size_setC (w : World) (b o : Nat) (v : Value) : (w.setCell ⟨b, o, none⟩ v).heap.size = w.heap.size := by simp
theorem args_all (ct : Bool) (N : Nat) (c : Cu) (hc : c.Ok) (hlen : c.ts.length ≤ 1099511627777) (hN : c.ts.length ≤ N) : ArgsAt (argsS (litF ct N)) ct c :=
 args_ok (litF ct N) ct c hc hlen (litF_goes ct N) (fun cc h1 h2 h3 => arg_ok (litF ct N) ct cc h1 (litF_ok ct N _ (want_stp (name_stp h1).ok bCol).ok (by rw [((name_stp h1).trans (want_stp (name_stp h1).ok bCol)).ts, h2]; exact hlen) (by rw [((name_stp h1).trans (want_stp (name_stp h1).ok bCol)).ts, h2]; omega)) (name_dead ct N cc))
theorem dirs_all (ct : Bool) (N : Nat) (c : Cu) (hc : c.Ok) (hlen : c.ts.length ≤ 1099511627777) (hN : c.ts.length ≤ N) : DirsAt (dirs (litF ct N)) ct c :=
 dirs_ok (litF ct N) ct c hc hlen (litF_goes ct N) (fun cc h1 h2 h3 h4 => dir_ok (litF ct N) ct cc h1 (isP_more h1 h4) (args_all ct N _ (name_stp (takeP h1 h4).ok).ok (by rw [((takeP h1 h4).trans (name_stp (takeP h1 h4).ok)).ts, h2]; exact hlen) (by rw [((takeP h1 h4).trans (name_stp (takeP h1 h4).ok)).ts, h2]; exact hN)))
set_option maxRecDepth 4000 in
set_option maxHeartbeats 2000000 in
theorem spread_ok (L : Cu → Option Dt × Cu) (c : Cu) (t : Tk) (hc0 : c.Ok) (hD : DirsAt (dirs L) false (c.nmC (c.isN && !inW [bOn] c.tok.tx))) : SelPs 94 (spreadS L t) t.ln t.co c := by
 intro B p w h
 have hlt := h.lt
 have hplt := h.plt
 have hne : B ≠ w.heap.size := by omega
 have hnp : p ≠ w.heap.size := by omega
 have bA := hide (fun o => show Below w.heap.size w (w.alloc o) from (Below.refl _ _).alloc (Nat.le_refl _) _)
 have hn := hide (fun W (bb : Below w.heap.size w W) b (hw : Wds W b 1 1 [bOn]) => nameBut_ok B p c b 1 1 [bOn] W (h.below bb) hw (by omega))
 have hd := hide (fun W (hc : CurAt W B p (c.nmC (c.isN && !inW [bOn] c.tok.tx))) => hD B p W hc)
 have hVV : spreadS L t c = ((dirs L (c.nmC (c.isN && !inW [bOn] c.tok.tx))).1.map fun l => selD 2 em (c.nmB (c.isN && !inW [bOn] c.tok.tx)) em [] l [] t.ln t.co, (dirs L (c.nmC (c.isN && !inW [bOn] c.tok.tx))).2) := by unfold spreadS; cases (dirs L (c.nmC (c.isN && !inW [bOn] c.tok.tx))).1 <;> rfl
 obtain ⟨V, hV⟩ : ∃ V, V = spreadS L t c := ⟨_, rfl⟩
 rw [← hV] at hVV ⊢
 clear hV
 obtain ⟨so, hso⟩ : ∃ so, so = (c.isN && !inW [bOn] c.tok.tx) := ⟨_, rfl⟩
 rw [← hso] at hn hd hVV
 obtain ⟨C, hC⟩ : ∃ C, C = c.nmC so := ⟨_, rfl⟩
 rw [← hC] at hn hd hVV
 obtain ⟨U, hU⟩ : ∃ U, U = dirs L C := ⟨_, rfl⟩
 rw [← hU] at hd hVV
 obtain ⟨nt, hnt⟩ : ∃ nt, nt = c.nmB so := ⟨_, rfl⟩
 rw [← hnt] at hVV
 have hnm : ∃ x y, nmV c.tok so = [.string nt, .int .i64 x, .int .i64 y] := by rw [hnt]; unfold nmV Cu.nmB; cases so; exact ⟨_, _, rfl⟩; exact ⟨_, _, rfl⟩
 obtain ⟨x, y, hnm⟩ := hnm
 rw [hnm] at hn
 obtain ⟨r, D⟩ := U
 have HV := hide hVV
 clear hVV
 clear h hD hU hC hso hnt hnm
 unfold ptr at hn hd
 unfold par
 go_enter Tryz.func94, Tryz.ntmps94
 go_wp2_with fail
 obtain ⟨wA, hwA⟩ : ∃ wA, wA = (((w.alloc (.cells #[.pointer (some ⟨B, 0, none⟩)] 83)).alloc (.cells #[.int .i64 t.ln, .int .i64 t.co] 28)).alloc (.cells #[.int .i64 0, .string ⟨#[]⟩, .string ⟨#[]⟩, .string ⟨#[]⟩, .slice none 0 0, .slice none 0 0, .slice none 0 0, .int .i64 0, .int .i64 0] 57)).alloc (.cells #[.string ⟨#[111, 110]⟩] 9) := ⟨_, rfl⟩
 obtain ⟨bw, z0, z1, z2, z3, zs⟩ := four_at w #[.pointer (some ⟨B, 0, none⟩)] 83 #[.int .i64 t.ln, .int .i64 t.co] 28 #[.int .i64 0, .string ⟨#[]⟩, .string ⟨#[]⟩, .string ⟨#[]⟩, .slice none 0 0, .slice none 0 0, .slice none 0 0, .int .i64 0, .int .i64 0] 57 #[.string ⟨#[111, 110]⟩] 9
 rw [← hwA] at bw z0 z1 z2 z3 zs ⊢
 clear hwA
 refine ((unhide hn) wA bw (w.heap.size + 1 + 1 + 1) ⟨rfl, by omega, by omega, fun i hi => ?_⟩).mono ?_
 ·obtain rfl : i = 0 := by omega
  exact (dt.cell_cells z3 0).trans rfl
 rintro e w1 ⟨rfl, hc1, hk1⟩
 have y0 := (hk1.block w.heap.size (by omega) (by omega)).trans z0
 have y1 := (hk1.block (w.heap.size + 1) (by omega) (by omega)).trans z1
 have y2 := (hk1.block (w.heap.size + 1 + 1) (by omega) (by omega)).trans z2
 have s1 := hk1.size
 have KK := (Kp.of bw).trans hk1
 clear z0 z1 z2 z3 hk1 hn bw
 have c0 : w1.cell? ⟨w.heap.size, 0, none⟩ = some (.pointer (some ⟨B, 0, none⟩)) := (dt.cell_cells y0 0).trans rfl
 have bN := fun o => show Below w1.heap.size w1 (w1.alloc o) from (Below.refl _ _).alloc (Nat.le_refl _) _
 have c1 : ∀ o, (w1.alloc o).cell? ⟨w.heap.size, 0, none⟩ = some (.pointer (some ⟨B, 0, none⟩)) := fun o => ((bN o).cell (p := ⟨w.heap.size, 0, none⟩) (show w.heap.size < w1.heap.size by omega)).trans c0
 go_wp2_with fail
 refine ((unhide hd) _ (hc1.below (bN _))).mono ?_
 rintro e w2 ⟨sl, rfl, hbp, hc2, hk2⟩
 have s2 := hk2.size
 simp only [World.size_alloc] at s2
 have N2 := (hk2.block w1.heap.size (by simp) (by omega)).trans (heap_alloc_new w1 _)
 have P2 := (hk2.block (w.heap.size + 1) (by simp; omega) (by omega)).trans (((bN _).block (w.heap.size + 1) (by omega)).trans y1)
 have R2 := (hk2.block (w.heap.size + 1 + 1) (by simp; omega) (by omega)).trans (((bN _).block (w.heap.size + 1 + 1) (by omega)).trans y2)
 have d0 : w2.cell? ⟨w1.heap.size, 0, none⟩ = some (.string nt) := (dt.cell_cells N2 0).trans rfl
 have d1 : w2.cell? ⟨w.heap.size + 1, 0, none⟩ = some (.int .i64 t.ln) := (dt.cell_cells P2 0).trans rfl
 have d2 : w2.cell? ⟨w.heap.size + 1, 1, none⟩ = some (.int .i64 t.co) := (dt.cell_cells P2 1).trans rfl
 have HT := hide (dt.there_cells R2 (o := 0) (n := 9) (by decide))
 have HK := hide ((KK.trans (Kp.of (bN _))).trans hk2)
 have HC := hide hc2
 obtain ⟨a, n, cp, rfl, hsh⟩ := brkD_form hbp
 have HS := hide hsh
 have hlo := hide (show w.heap.size + 1 + 1 < w1.heap.size ∧ w1.heap.size ≤ (w1.alloc (.cells #[.string nt, .int .i64 x, .int .i64 y] 120)).heap.size from ⟨by omega, by simp⟩)
 clear hbp hsh hc2 hk2 hc1 y0 y1 y2 KK c0 c1 bN N2 P2 R2 hd bA zs
 go_wp2_with (first
  | refine wpList_store_mid (by rfl) 57 _ _ (by rfl) (w.heap.size + 1 + 1) 0 (selC 2 em nt em none 0 0 a n cp none 0 0 t.ln t.co).toArray (by rfl) (by rfl) (unhide HT) infoSel (dt.one_cells (cs := selC 2 em nt em none 0 0 a n cp none 0 0 t.ln t.co) (by rfl)) ?_)
 refine bodyPost_ret (rgn.result_row_tmp rfl _ _ (w.heap.size + 1 + 1) 0 (selC 2 em nt em none 0 0 a n cp none 0 0 t.ln t.co) _ rfl (World.rangeAt_setCells_same _ _ _ _ (unhide HT)) Tryz.underlying57 rfl infoSel) rfl ?_
 have hl := unhide hlo
 rw [unhide HV]
 cases r with
 | none =>
  exact ⟨_, [], rfl, ⟨⟨_, _, _, _, _, _, _, _, _, _, _, _, _, _, _, rfl⟩, fun d e => by cases e⟩, (unhide HC).out (by omega) (by omega) _ _, (unhide HK).out (by omega) _ _⟩
 | some l =>
  obtain ⟨F, hs⟩ := (unhide HS) l rfl
  have hs2 := hs.out (b := w.heap.size + 1 + 1) (.inl (by omega)) 0 (selC 2 em nt em none 0 0 a n cp none 0 0 t.ln t.co)
  obtain ⟨F', o1, o2, o3⟩ := sel_ow (Sh.nil (lo := w2.heap.size) (hi := 0) (by omega)) hs2 (Sh.nil (lo := w2.heap.size) (hi := 0) (by omega)) (by omega) (by omega) (by simp; omega) 2 em nt em t.ln t.co w.heap.size (by omega) (by omega) (by omega)
  exact ⟨_, F', rfl, ⟨⟨_, _, _, _, _, _, _, _, _, _, _, _, _, _, _, rfl⟩, fun d e => by obtain rfl := Option.some.inj e; exact ⟨o1, o2, o3⟩⟩, (unhide HC).out (by omega) (by omega) _ _, (unhide HK).out (by omega) _ _⟩
set_option maxRecDepth 4000 in
set_option maxHeartbeats 4000000 in
theorem inline_ok (L : Cu → Option Dt × Cu) (S : Cu → Option (List Dt) × Cu) (c : Cu) (t : Tk) (hc0 : c.Ok) (hD : DirsAt (dirs L) false (onC c)) (hS : SelsAt S (dirs L (onC c)).2) (hsome : (S (dirs L (onC c)).2).1.isSome = true → ∃ l, (dirs L (onC c)).1 = some l) : SelPs 95 (inlineS L S t) t.ln t.co c := by
 intro B p w h
 have hlt := h.lt
 have hplt := h.plt
 have hw := hide (fun W (hc : CurAt W B p c) => wordW_ok B p c bOn W hc)
 have hn := hide (fun W (hc : CurAt W B p c.take) => nameAny_ok B p c.take W hc)
 have hd := hide (fun W (hc : CurAt W B p (onC c)) => hD B p W hc)
 have hss := hide (fun W (hc : CurAt W B p (dirs L (onC c)).2) => hS B p W hc)
 have hVV : inlineS L S t c = ((S (dirs L (onC c)).2).1.map fun ss => selD 3 em em (onT c) [] ((dirs L (onC c)).1.getD []) ss t.ln t.co, (S (dirs L (onC c)).2).2) := by unfold inlineS; cases (S (dirs L (onC c)).2).1 <;> rfl
 obtain ⟨V, hV⟩ : ∃ V, V = inlineS L S t c := ⟨_, rfl⟩
 rw [← hV] at hVV ⊢
 clear hV
 obtain ⟨U, hU⟩ : ∃ U, U = dirs L (onC c) := ⟨_, rfl⟩
 rw [← hU] at hd hss hVV hsome
 obtain ⟨r, D⟩ := U
 obtain ⟨X, hX⟩ : ∃ X, X = S D := ⟨_, rfl⟩
 simp only at hss hVV hsome
 rw [← hX] at hss hVV hsome
 obtain ⟨q, E⟩ := X
 have HV := hide hVV
 have HSO := hide hsome
 have hwc := hide (show c.word bOn = if c.isW [bOn] then c.take else c from rfl)
 have hoc := hide (show onC c = if c.isW [bOn] then c.take.name else c from rfl)
 have hot := hide (show onT c = if c.isW [bOn] then c.take.nmS else em from rfl)
 rw [nmT_form] at hn
 have hnm := hide (show c.take.nmS = if c.take.isN then c.take.tok.tx else em from rfl)
 obtain ⟨nt, hnt⟩ : ∃ nt, nt = if c.take.isN then c.take.tok.tx else em := ⟨_, rfl⟩
 rw [← hnt] at hn hnm
 obtain ⟨x, hx⟩ : ∃ x, x = if c.take.isN then c.take.tok.ln else 0 := ⟨_, rfl⟩
 obtain ⟨y, hy⟩ : ∃ y, y = if c.take.isN then c.take.tok.co else 0 := ⟨_, rfl⟩
 rw [← hx, ← hy] at hn
 obtain ⟨O, hO⟩ : ∃ O, O = onC c := ⟨_, rfl⟩
 rw [← hO] at hd hoc
 obtain ⟨T, hT⟩ : ∃ T, T = onT c := ⟨_, rfl⟩
 rw [← hT] at HV hot
 obtain ⟨N, hN⟩ : ∃ N, N = c.take.name := ⟨_, rfl⟩
 rw [← hN] at hn hoc
 obtain ⟨Y, hY⟩ : ∃ Y, Y = c.word bOn := ⟨_, rfl⟩
 rw [← hY] at hw hwc
 obtain ⟨Z, hZ⟩ : ∃ Z, Z = c.take := ⟨_, rfl⟩
 rw [← hZ] at hn hwc hnm hot
 obtain ⟨NS, hNS⟩ : ∃ NS, NS = Z.nmS := ⟨_, rfl⟩
 rw [← hNS] at hnm hot
 obtain rfl : NS = nt := unhide hnm
 clear hS hD hU hX hVV hsome hnt hx hy hO hT hN hY hZ hNS hnm
 unfold ptr at hn hd hw
 unfold par at hss ⊢
 go_enter Tryz.func95, Tryz.ntmps95
 go_wp2_with fail
 obtain ⟨W1, hW1⟩ : ∃ W1, W1 = allocs w [(#[.pointer (some ⟨B, 0, none⟩)], 83), (#[.int .i64 t.ln, .int .i64 t.co], 28), (#[.int .i64 0, .string ⟨#[]⟩, .string ⟨#[]⟩, .string ⟨#[]⟩, .slice none 0 0, .slice none 0 0, .slice none 0 0, .int .i64 0, .int .i64 0], 57), (#[.int .i64 3, .string ⟨#[]⟩, .string ⟨#[]⟩, .string ⟨#[]⟩, .slice none 0 0, .slice none 0 0, .slice none 0 0, .int .i64 t.ln, .int .i64 t.co], 57)] := ⟨_, rfl⟩
 have gW1 : W1 = ((((w.alloc (.cells #[.pointer (some ⟨B, 0, none⟩)] 83)).alloc (.cells #[.int .i64 t.ln, .int .i64 t.co] 28)).alloc (.cells #[.int .i64 0, .string ⟨#[]⟩, .string ⟨#[]⟩, .string ⟨#[]⟩, .slice none 0 0, .slice none 0 0, .slice none 0 0, .int .i64 0, .int .i64 0] 57)).alloc (.cells #[.int .i64 3, .string ⟨#[]⟩, .string ⟨#[]⟩, .string ⟨#[]⟩, .slice none 0 0, .slice none 0 0, .slice none 0 0, .int .i64 t.ln, .int .i64 t.co] 57)) := hW1
 have aa := allocs_at [(#[.pointer (some ⟨B, 0, none⟩)], 83), (#[.int .i64 t.ln, .int .i64 t.co], 28), (#[.int .i64 0, .string ⟨#[]⟩, .string ⟨#[]⟩, .string ⟨#[]⟩, .slice none 0 0, .slice none 0 0, .slice none 0 0, .int .i64 0, .int .i64 0], 57), (#[.int .i64 3, .string ⟨#[]⟩, .string ⟨#[]⟩, .string ⟨#[]⟩, .slice none 0 0, .slice none 0 0, .slice none 0 0, .int .i64 t.ln, .int .i64 t.co], 57)] w
 have fP1 : W1.heap[w.heap.size]? = some (.cells #[.pointer (some ⟨B, 0, none⟩)] 83 (0, 0)) := by rw [hW1]; exact aa 0 _ rfl
 have fQ1 : W1.heap[(w.heap.size + 1)]? = some (.cells #[.int .i64 t.ln, .int .i64 t.co] 28 (0, 0)) := by rw [hW1]; exact aa 1 _ rfl
 have fR1 : W1.heap[(w.heap.size + 1 + 1)]? = some (.cells #[.int .i64 0, .string ⟨#[]⟩, .string ⟨#[]⟩, .string ⟨#[]⟩, .slice none 0 0, .slice none 0 0, .slice none 0 0, .int .i64 0, .int .i64 0] 57 (0, 0)) := by rw [hW1]; exact aa 2 _ rfl
 have fS1 : W1.heap[(w.heap.size + 1 + 1 + 1)]? = some (.cells #[.int .i64 3, .string ⟨#[]⟩, .string ⟨#[]⟩, .string ⟨#[]⟩, .slice none 0 0, .slice none 0 0, .slice none 0 0, .int .i64 t.ln, .int .i64 t.co] 57 (0, 0)) := by rw [hW1]; exact aa 3 _ rfl
 have bw : Below w.heap.size w W1 := by rw [hW1]; exact allocs_below _ _
 have sz1 : w.heap.size + 4 ≤ W1.heap.size := by rw [hW1, allocs_size]; exact Nat.le_refl _
 have K1 : Kp B w W1 := Kp.of bw
 have C1 := h.below bw
 rw [← gW1]
 clear gW1 hW1 bw aa h
 refine ((unhide hw) _ C1).mono ?_
 rintro e W2 ⟨rfl, C2, J2⟩
 have sz2 := J2.size
 have fP2 : W2.heap[w.heap.size]? = some (.cells #[.pointer (some ⟨B, 0, none⟩)] 83 (0, 0)) := (J2.block _ (by omega) (by omega)).trans fP1
 have fQ2 : W2.heap[(w.heap.size + 1)]? = some (.cells #[.int .i64 t.ln, .int .i64 t.co] 28 (0, 0)) := (J2.block _ (by omega) (by omega)).trans fQ1
 have fR2 : W2.heap[(w.heap.size + 1 + 1)]? = some (.cells #[.int .i64 0, .string ⟨#[]⟩, .string ⟨#[]⟩, .string ⟨#[]⟩, .slice none 0 0, .slice none 0 0, .slice none 0 0, .int .i64 0, .int .i64 0] 57 (0, 0)) := (J2.block _ (by omega) (by omega)).trans fR1
 have fS2 : W2.heap[(w.heap.size + 1 + 1 + 1)]? = some (.cells #[.int .i64 3, .string ⟨#[]⟩, .string ⟨#[]⟩, .string ⟨#[]⟩, .slice none 0 0, .slice none 0 0, .slice none 0 0, .int .i64 t.ln, .int .i64 t.co] 57 (0, 0)) := (J2.block _ (by omega) (by omega)).trans fS1
 have K2 := K1.trans J2
 clear fP1 fQ1 fR1 fS1 K1 C1 J2
 cases hIW : c.isW [bOn]
 ·have cP3_0 : W2.cell? ⟨w.heap.size, 0, none⟩ = some (.pointer (some ⟨B, 0, none⟩)) := (dt.cell_cells fP2 0).trans rfl
  obtain rfl : Y = c := by have := unhide hwc; rw [hIW] at this; exact this
  obtain rfl : O = Y := by have := unhide hoc; rw [hIW] at this; exact this
  obtain rfl : T = em := by have := unhide hot; rw [hIW] at this; exact this
  clear hwc hoc hot hIW hw hn
  go_wp2_with fail
  refine ((unhide hd) _ C2).mono ?_
  rintro e W4 ⟨sl, rfl, hbp, C4, J4⟩
  have sz4 := J4.size
  have fP4 : W4.heap[w.heap.size]? = some (.cells #[.pointer (some ⟨B, 0, none⟩)] 83 (0, 0)) := (J4.block _ (by omega) (by omega)).trans fP2
  have fQ4 : W4.heap[(w.heap.size + 1)]? = some (.cells #[.int .i64 t.ln, .int .i64 t.co] 28 (0, 0)) := (J4.block _ (by omega) (by omega)).trans fQ2
  have fR4 : W4.heap[(w.heap.size + 1 + 1)]? = some (.cells #[.int .i64 0, .string ⟨#[]⟩, .string ⟨#[]⟩, .string ⟨#[]⟩, .slice none 0 0, .slice none 0 0, .slice none 0 0, .int .i64 0, .int .i64 0] 57 (0, 0)) := (J4.block _ (by omega) (by omega)).trans fR2
  have fS4 : W4.heap[(w.heap.size + 1 + 1 + 1)]? = some (.cells #[.int .i64 3, .string ⟨#[]⟩, .string ⟨#[]⟩, .string ⟨#[]⟩, .slice none 0 0, .slice none 0 0, .slice none 0 0, .int .i64 t.ln, .int .i64 t.co] 57 (0, 0)) := (J4.block _ (by omega) (by omega)).trans fS2
  have K4 := K2.trans J4
  clear fP2 fQ2 fR2 fS2 K2 C2 J4
  obtain ⟨a2, n2, c2, rfl, sD4⟩ := brkD_form hbp
  clear hbp hd
  have sD_le := sz4
  have cS6_5 : W4.cell? ⟨(w.heap.size + 1 + 1 + 1), 5, none⟩ = some (.slice none 0 0) := (dt.cell_cells fS4 5).trans rfl
  have zS6_5 : W4.frozen? ⟨(w.heap.size + 1 + 1 + 1), 5, none⟩ = false := dt.frozen_cells fS4 5
  have fP5 : (W4.setCell ⟨(w.heap.size + 1 + 1 + 1), 5, none⟩ (.slice a2 n2 c2)).heap[w.heap.size]? = some (.cells #[.pointer (some ⟨B, 0, none⟩)] 83 (0, 0)) := (Below.heap_setCell W4 _ _ _ (show w.heap.size ≠ (w.heap.size + 1 + 1 + 1) by omega)).trans fP4
  have fQ5 : (W4.setCell ⟨(w.heap.size + 1 + 1 + 1), 5, none⟩ (.slice a2 n2 c2)).heap[(w.heap.size + 1)]? = some (.cells #[.int .i64 t.ln, .int .i64 t.co] 28 (0, 0)) := (Below.heap_setCell W4 _ _ _ (show (w.heap.size + 1) ≠ (w.heap.size + 1 + 1 + 1) by omega)).trans fQ4
  have fR5 : (W4.setCell ⟨(w.heap.size + 1 + 1 + 1), 5, none⟩ (.slice a2 n2 c2)).heap[(w.heap.size + 1 + 1)]? = some (.cells #[.int .i64 0, .string ⟨#[]⟩, .string ⟨#[]⟩, .string ⟨#[]⟩, .slice none 0 0, .slice none 0 0, .slice none 0 0, .int .i64 0, .int .i64 0] 57 (0, 0)) := (Below.heap_setCell W4 _ _ _ (show (w.heap.size + 1 + 1) ≠ (w.heap.size + 1 + 1 + 1) by omega)).trans fR4
  have fS5 : (W4.setCell ⟨(w.heap.size + 1 + 1 + 1), 5, none⟩ (.slice a2 n2 c2)).heap[(w.heap.size + 1 + 1 + 1)]? = some (.cells #[.int .i64 3, .string ⟨#[]⟩, .string ⟨#[]⟩, .string ⟨#[]⟩, .slice none 0 0, .slice a2 n2 c2, .slice none 0 0, .int .i64 t.ln, .int .i64 t.co] 57 (0, 0)) := (dt.heap_setCell_at fS4 5 _).trans rfl
  have sz5 : W4.heap.size ≤ (W4.setCell ⟨(w.heap.size + 1 + 1 + 1), 5, none⟩ (.slice a2 n2 c2)).heap.size := Nat.le_of_eq (size_setC _ _ _ _).symm
  have C5 := C4.outC (b := (w.heap.size + 1 + 1 + 1)) (by omega) (by omega) 5 (.slice a2 n2 c2)
  have K5 := K4.setB (b := (w.heap.size + 1 + 1 + 1)) (by omega) 5 (.slice a2 n2 c2)
  have sD5 := sD4.outC (b := (w.heap.size + 1 + 1 + 1)) (by omega) 5 (.slice a2 n2 c2)
  have cP7_0 : (W4.setCell ⟨(w.heap.size + 1 + 1 + 1), 5, none⟩ (.slice a2 n2 c2)).cell? ⟨w.heap.size, 0, none⟩ = some (.pointer (some ⟨B, 0, none⟩)) := (dt.cell_cells fP5 0).trans rfl
  go_wp2_with fail
  obtain ⟨W8, hW8⟩ : ∃ W8, W8 = (W4.setCell ⟨(w.heap.size + 1 + 1 + 1), 5, none⟩ (.slice a2 n2 c2)) := ⟨_, rfl⟩
  rw [← hW8] at fP5 fQ5 fR5 fS5 sD5 C5 K5 ⊢
  have sz8 : (W4.setCell ⟨(w.heap.size + 1 + 1 + 1), 5, none⟩ (.slice a2 n2 c2)).heap.size ≤ W8.heap.size := by rw [hW8]; exact Nat.le_refl _
  clear hW8
  refine ((unhide hss) _ C5).mono ?_
  rintro e W9 ⟨sl, rfl, hbp, C9, J9⟩
  have sz9 := J9.size
  have fP9 : W9.heap[w.heap.size]? = some (.cells #[.pointer (some ⟨B, 0, none⟩)] 83 (0, 0)) := (J9.block _ (by omega) (by omega)).trans fP5
  have fQ9 : W9.heap[(w.heap.size + 1)]? = some (.cells #[.int .i64 t.ln, .int .i64 t.co] 28 (0, 0)) := (J9.block _ (by omega) (by omega)).trans fQ5
  have fR9 : W9.heap[(w.heap.size + 1 + 1)]? = some (.cells #[.int .i64 0, .string ⟨#[]⟩, .string ⟨#[]⟩, .string ⟨#[]⟩, .slice none 0 0, .slice none 0 0, .slice none 0 0, .int .i64 0, .int .i64 0] 57 (0, 0)) := (J9.block _ (by omega) (by omega)).trans fR5
  have fS9 : W9.heap[(w.heap.size + 1 + 1 + 1)]? = some (.cells #[.int .i64 3, .string ⟨#[]⟩, .string ⟨#[]⟩, .string ⟨#[]⟩, .slice none 0 0, .slice a2 n2 c2, .slice none 0 0, .int .i64 t.ln, .int .i64 t.co] 57 (0, 0)) := (J9.block _ (by omega) (by omega)).trans fS5
  have sD9 := sD5.kp J9 (by omega)
  have K9 := K5.trans J9
  clear fP5 fQ5 fR5 fS5 sD5 K5 C5 J9
  obtain ⟨a3, n3, c3, F3, rfl, sE9⟩ := brkS_form hbp
  have sE_le := sz9
  clear hbp hss
  have cS11_6 : W9.cell? ⟨(w.heap.size + 1 + 1 + 1), 6, none⟩ = some (.slice none 0 0) := (dt.cell_cells fS9 6).trans rfl
  have zS11_6 : W9.frozen? ⟨(w.heap.size + 1 + 1 + 1), 6, none⟩ = false := dt.frozen_cells fS9 6
  have fP10 : (W9.setCell ⟨(w.heap.size + 1 + 1 + 1), 6, none⟩ (.slice a3 n3 c3)).heap[w.heap.size]? = some (.cells #[.pointer (some ⟨B, 0, none⟩)] 83 (0, 0)) := (Below.heap_setCell W9 _ _ _ (show w.heap.size ≠ (w.heap.size + 1 + 1 + 1) by omega)).trans fP9
  have fQ10 : (W9.setCell ⟨(w.heap.size + 1 + 1 + 1), 6, none⟩ (.slice a3 n3 c3)).heap[(w.heap.size + 1)]? = some (.cells #[.int .i64 t.ln, .int .i64 t.co] 28 (0, 0)) := (Below.heap_setCell W9 _ _ _ (show (w.heap.size + 1) ≠ (w.heap.size + 1 + 1 + 1) by omega)).trans fQ9
  have fR10 : (W9.setCell ⟨(w.heap.size + 1 + 1 + 1), 6, none⟩ (.slice a3 n3 c3)).heap[(w.heap.size + 1 + 1)]? = some (.cells #[.int .i64 0, .string ⟨#[]⟩, .string ⟨#[]⟩, .string ⟨#[]⟩, .slice none 0 0, .slice none 0 0, .slice none 0 0, .int .i64 0, .int .i64 0] 57 (0, 0)) := (Below.heap_setCell W9 _ _ _ (show (w.heap.size + 1 + 1) ≠ (w.heap.size + 1 + 1 + 1) by omega)).trans fR9
  have fS10 : (W9.setCell ⟨(w.heap.size + 1 + 1 + 1), 6, none⟩ (.slice a3 n3 c3)).heap[(w.heap.size + 1 + 1 + 1)]? = some (.cells #[.int .i64 3, .string ⟨#[]⟩, .string ⟨#[]⟩, .string ⟨#[]⟩, .slice none 0 0, .slice a2 n2 c2, .slice a3 n3 c3, .int .i64 t.ln, .int .i64 t.co] 57 (0, 0)) := (dt.heap_setCell_at fS9 6 _).trans rfl
  have sz10 : W9.heap.size ≤ (W9.setCell ⟨(w.heap.size + 1 + 1 + 1), 6, none⟩ (.slice a3 n3 c3)).heap.size := Nat.le_of_eq (size_setC _ _ _ _).symm
  have C10 := C9.outC (b := (w.heap.size + 1 + 1 + 1)) (by omega) (by omega) 6 (.slice a3 n3 c3)
  have K10 := K9.setB (b := (w.heap.size + 1 + 1 + 1)) (by omega) 6 (.slice a3 n3 c3)
  have sD10 := sD9.outC (b := (w.heap.size + 1 + 1 + 1)) (by omega) 6 (.slice a3 n3 c3)
  have sE10 := sE9.outC (b := (w.heap.size + 1 + 1 + 1)) (by omega) 6 (.slice a3 n3 c3)
  have cS12_0 : (W9.setCell ⟨(w.heap.size + 1 + 1 + 1), 6, none⟩ (.slice a3 n3 c3)).cell? ⟨(w.heap.size + 1 + 1 + 1), 0, none⟩ = some (.int .i64 3) := (dt.cell_cells fS10 0).trans rfl
  have cS12_1 : (W9.setCell ⟨(w.heap.size + 1 + 1 + 1), 6, none⟩ (.slice a3 n3 c3)).cell? ⟨(w.heap.size + 1 + 1 + 1), 1, none⟩ = some (.string ⟨#[]⟩) := (dt.cell_cells fS10 1).trans rfl
  have cS12_2 : (W9.setCell ⟨(w.heap.size + 1 + 1 + 1), 6, none⟩ (.slice a3 n3 c3)).cell? ⟨(w.heap.size + 1 + 1 + 1), 2, none⟩ = some (.string ⟨#[]⟩) := (dt.cell_cells fS10 2).trans rfl
  have cS12_3 : (W9.setCell ⟨(w.heap.size + 1 + 1 + 1), 6, none⟩ (.slice a3 n3 c3)).cell? ⟨(w.heap.size + 1 + 1 + 1), 3, none⟩ = some (.string ⟨#[]⟩) := (dt.cell_cells fS10 3).trans rfl
  have cS12_4 : (W9.setCell ⟨(w.heap.size + 1 + 1 + 1), 6, none⟩ (.slice a3 n3 c3)).cell? ⟨(w.heap.size + 1 + 1 + 1), 4, none⟩ = some (.slice none 0 0) := (dt.cell_cells fS10 4).trans rfl
  have cS12_5 : (W9.setCell ⟨(w.heap.size + 1 + 1 + 1), 6, none⟩ (.slice a3 n3 c3)).cell? ⟨(w.heap.size + 1 + 1 + 1), 5, none⟩ = some (.slice a2 n2 c2) := (dt.cell_cells fS10 5).trans rfl
  have cS12_6 : (W9.setCell ⟨(w.heap.size + 1 + 1 + 1), 6, none⟩ (.slice a3 n3 c3)).cell? ⟨(w.heap.size + 1 + 1 + 1), 6, none⟩ = some (.slice a3 n3 c3) := (dt.cell_cells fS10 6).trans rfl
  have cS12_7 : (W9.setCell ⟨(w.heap.size + 1 + 1 + 1), 6, none⟩ (.slice a3 n3 c3)).cell? ⟨(w.heap.size + 1 + 1 + 1), 7, none⟩ = some (.int .i64 t.ln) := (dt.cell_cells fS10 7).trans rfl
  have cS12_8 : (W9.setCell ⟨(w.heap.size + 1 + 1 + 1), 6, none⟩ (.slice a3 n3 c3)).cell? ⟨(w.heap.size + 1 + 1 + 1), 8, none⟩ = some (.int .i64 t.co) := (dt.cell_cells fS10 8).trans rfl
  have HT := hide (dt.there_cells fR10 (o := 0) (n := 9) (by decide))
  have HF := hide (And.intro C10 (And.intro K10 (And.intro sD10 sE10)))
  clear C10 K10 sD10 sE10
  go_wp2_with (first
   | refine wpList_store_mid (by rfl) 57 _ _ (by rfl) (w.heap.size + 1 + 1) 0 (selC 3 em em em none 0 0 a2 n2 c2 a3 n3 c3 t.ln t.co).toArray (by rfl) (by rfl) (unhide HT) infoSel (dt.one_cells (cs := selC 3 em em em none 0 0 a2 n2 c2 a3 n3 c3 t.ln t.co) (by rfl)) ?_)
  refine bodyPost_ret (rgn.result_row_tmp rfl _ _ (w.heap.size + 1 + 1) 0 (selC 3 em em em none 0 0 a2 n2 c2 a3 n3 c3 t.ln t.co) _ rfl (World.rangeAt_setCells_same _ _ _ _ (unhide HT)) Tryz.underlying57 rfl infoSel) rfl ?_
  obtain ⟨hC, hK, hD, hE⟩ := unhide HF
  rw [unhide HV]
  cases q with
  | none =>
   exact ⟨_, [], rfl, ⟨⟨_, _, _, _, _, _, _, _, _, _, _, _, _, _, _, rfl⟩, fun d e => by cases e⟩, hC.out (by omega) (by omega) _ _, hK.out (by omega) _ _⟩
  | some ss =>
   obtain ⟨l, rfl⟩ := (unhide HSO) rfl
   obtain ⟨F2, hD⟩ := hD l rfl
   have hD2 := hD.out (b := w.heap.size + 1 + 1) (.inl (by omega)) 0 (selC 3 em em em none 0 0 a2 n2 c2 a3 n3 c3 t.ln t.co)
   have hE2 := hE.out (b := w.heap.size + 1 + 1) (.inl (by omega)) 0 (selC 3 em em em none 0 0 a2 n2 c2 a3 n3 c3 t.ln t.co)
   obtain ⟨F', o1, o2, o3⟩ := sel_ow (Sh.nil (lo := w.heap.size) (hi := 0) (by omega)) hD2 hE2 (by omega) (by omega) (by omega) 3 em em em t.ln t.co w.heap.size (by omega) (by omega) (by omega)
   exact ⟨_, F', rfl, ⟨⟨_, _, _, _, _, _, _, _, _, _, _, _, _, _, _, rfl⟩, fun d e => by obtain rfl := Option.some.inj e; exact ⟨o1, o2, o3⟩⟩, hC.out (by omega) (by omega) _ _, hK.out (by omega) _ _⟩
 ·obtain rfl : Y = Z := by have := unhide hwc; rw [hIW] at this; exact this
  obtain rfl : O = N := by have := unhide hoc; rw [hIW] at this; exact this
  obtain rfl : T = NS := by have := unhide hot; rw [hIW] at this; exact this
  clear hwc hoc hot hIW hw
  have cP3_0 : W2.cell? ⟨w.heap.size, 0, none⟩ = some (.pointer (some ⟨B, 0, none⟩)) := (dt.cell_cells fP2 0).trans rfl
  go_wp2_with fail
  refine ((unhide hn) _ C2).mono ?_
  rintro e W4 ⟨rfl, C4, J4⟩
  have sz4 := J4.size
  have fP4 : W4.heap[w.heap.size]? = some (.cells #[.pointer (some ⟨B, 0, none⟩)] 83 (0, 0)) := (J4.block _ (by omega) (by omega)).trans fP2
  have fQ4 : W4.heap[(w.heap.size + 1)]? = some (.cells #[.int .i64 t.ln, .int .i64 t.co] 28 (0, 0)) := (J4.block _ (by omega) (by omega)).trans fQ2
  have fR4 : W4.heap[(w.heap.size + 1 + 1)]? = some (.cells #[.int .i64 0, .string ⟨#[]⟩, .string ⟨#[]⟩, .string ⟨#[]⟩, .slice none 0 0, .slice none 0 0, .slice none 0 0, .int .i64 0, .int .i64 0] 57 (0, 0)) := (J4.block _ (by omega) (by omega)).trans fR2
  have fS4 : W4.heap[(w.heap.size + 1 + 1 + 1)]? = some (.cells #[.int .i64 3, .string ⟨#[]⟩, .string ⟨#[]⟩, .string ⟨#[]⟩, .slice none 0 0, .slice none 0 0, .slice none 0 0, .int .i64 t.ln, .int .i64 t.co] 57 (0, 0)) := (J4.block _ (by omega) (by omega)).trans fS2
  have K4 := K2.trans J4
  clear fP2 fQ2 fR2 fS2 K2 C2 J4
  clear hn
  have fP5 : (W4.alloc (.cells #[.string T, .int .i64 x, .int .i64 y] 120)).heap[w.heap.size]? = some (.cells #[.pointer (some ⟨B, 0, none⟩)] 83 (0, 0)) := (Below.heap_alloc W4 _ _ (by omega)).trans fP4
  have fQ5 : (W4.alloc (.cells #[.string T, .int .i64 x, .int .i64 y] 120)).heap[(w.heap.size + 1)]? = some (.cells #[.int .i64 t.ln, .int .i64 t.co] 28 (0, 0)) := (Below.heap_alloc W4 _ _ (by omega)).trans fQ4
  have fR5 : (W4.alloc (.cells #[.string T, .int .i64 x, .int .i64 y] 120)).heap[(w.heap.size + 1 + 1)]? = some (.cells #[.int .i64 0, .string ⟨#[]⟩, .string ⟨#[]⟩, .string ⟨#[]⟩, .slice none 0 0, .slice none 0 0, .slice none 0 0, .int .i64 0, .int .i64 0] 57 (0, 0)) := (Below.heap_alloc W4 _ _ (by omega)).trans fR4
  have fS5 : (W4.alloc (.cells #[.string T, .int .i64 x, .int .i64 y] 120)).heap[(w.heap.size + 1 + 1 + 1)]? = some (.cells #[.int .i64 3, .string ⟨#[]⟩, .string ⟨#[]⟩, .string ⟨#[]⟩, .slice none 0 0, .slice none 0 0, .slice none 0 0, .int .i64 t.ln, .int .i64 t.co] 57 (0, 0)) := (Below.heap_alloc W4 _ _ (by omega)).trans fS4
  have fN5 : (W4.alloc (.cells #[.string T, .int .i64 x, .int .i64 y] 120)).heap[W4.heap.size]? = some (.cells #[.string T, .int .i64 x, .int .i64 y] 120 (0, 0)) := heap_alloc_new _ _
  have sz5 : W4.heap.size + 1 ≤ (W4.alloc (.cells #[.string T, .int .i64 x, .int .i64 y] 120)).heap.size := by rw [World.size_alloc]; exact Nat.le_refl _
  have bb5 : Below W4.heap.size W4 (W4.alloc (.cells #[.string T, .int .i64 x, .int .i64 y] 120)) := (Below.refl _ _).alloc (Nat.le_refl _) _
  have C5 := C4.below bb5
  have K5 := K4.trans (Kp.of bb5)
  have cS7_3 : (W4.alloc (.cells #[.string T, .int .i64 x, .int .i64 y] 120)).cell? ⟨(w.heap.size + 1 + 1 + 1), 3, none⟩ = some (.string ⟨#[]⟩) := (dt.cell_cells fS5 3).trans rfl
  have zS7_3 : (W4.alloc (.cells #[.string T, .int .i64 x, .int .i64 y] 120)).frozen? ⟨(w.heap.size + 1 + 1 + 1), 3, none⟩ = false := dt.frozen_cells fS5 3
  have fP6 : ((W4.alloc (.cells #[.string T, .int .i64 x, .int .i64 y] 120)).setCell ⟨(w.heap.size + 1 + 1 + 1), 3, none⟩ (.string T)).heap[w.heap.size]? = some (.cells #[.pointer (some ⟨B, 0, none⟩)] 83 (0, 0)) := (Below.heap_setCell (W4.alloc (.cells #[.string T, .int .i64 x, .int .i64 y] 120)) _ _ _ (show w.heap.size ≠ (w.heap.size + 1 + 1 + 1) by omega)).trans fP5
  have fQ6 : ((W4.alloc (.cells #[.string T, .int .i64 x, .int .i64 y] 120)).setCell ⟨(w.heap.size + 1 + 1 + 1), 3, none⟩ (.string T)).heap[(w.heap.size + 1)]? = some (.cells #[.int .i64 t.ln, .int .i64 t.co] 28 (0, 0)) := (Below.heap_setCell (W4.alloc (.cells #[.string T, .int .i64 x, .int .i64 y] 120)) _ _ _ (show (w.heap.size + 1) ≠ (w.heap.size + 1 + 1 + 1) by omega)).trans fQ5
  have fR6 : ((W4.alloc (.cells #[.string T, .int .i64 x, .int .i64 y] 120)).setCell ⟨(w.heap.size + 1 + 1 + 1), 3, none⟩ (.string T)).heap[(w.heap.size + 1 + 1)]? = some (.cells #[.int .i64 0, .string ⟨#[]⟩, .string ⟨#[]⟩, .string ⟨#[]⟩, .slice none 0 0, .slice none 0 0, .slice none 0 0, .int .i64 0, .int .i64 0] 57 (0, 0)) := (Below.heap_setCell (W4.alloc (.cells #[.string T, .int .i64 x, .int .i64 y] 120)) _ _ _ (show (w.heap.size + 1 + 1) ≠ (w.heap.size + 1 + 1 + 1) by omega)).trans fR5
  have fS6 : ((W4.alloc (.cells #[.string T, .int .i64 x, .int .i64 y] 120)).setCell ⟨(w.heap.size + 1 + 1 + 1), 3, none⟩ (.string T)).heap[(w.heap.size + 1 + 1 + 1)]? = some (.cells #[.int .i64 3, .string ⟨#[]⟩, .string ⟨#[]⟩, .string T, .slice none 0 0, .slice none 0 0, .slice none 0 0, .int .i64 t.ln, .int .i64 t.co] 57 (0, 0)) := (dt.heap_setCell_at fS5 3 _).trans rfl
  have fN6 : ((W4.alloc (.cells #[.string T, .int .i64 x, .int .i64 y] 120)).setCell ⟨(w.heap.size + 1 + 1 + 1), 3, none⟩ (.string T)).heap[W4.heap.size]? = some (.cells #[.string T, .int .i64 x, .int .i64 y] 120 (0, 0)) := (Below.heap_setCell (W4.alloc (.cells #[.string T, .int .i64 x, .int .i64 y] 120)) _ _ _ (show W4.heap.size ≠ (w.heap.size + 1 + 1 + 1) by omega)).trans fN5
  have sz6 : (W4.alloc (.cells #[.string T, .int .i64 x, .int .i64 y] 120)).heap.size ≤ ((W4.alloc (.cells #[.string T, .int .i64 x, .int .i64 y] 120)).setCell ⟨(w.heap.size + 1 + 1 + 1), 3, none⟩ (.string T)).heap.size := Nat.le_of_eq (size_setC _ _ _ _).symm
  have C6 := C5.outC (b := (w.heap.size + 1 + 1 + 1)) (by omega) (by omega) 3 (.string T)
  have K6 := K5.setB (b := (w.heap.size + 1 + 1 + 1)) (by omega) 3 (.string T)
  have cP8_0 : ((W4.alloc (.cells #[.string T, .int .i64 x, .int .i64 y] 120)).setCell ⟨(w.heap.size + 1 + 1 + 1), 3, none⟩ (.string T)).cell? ⟨w.heap.size, 0, none⟩ = some (.pointer (some ⟨B, 0, none⟩)) := (dt.cell_cells fP6 0).trans rfl
  go_wp2_with fail
  obtain ⟨W9, hW9⟩ : ∃ W9, W9 = ((W4.alloc (.cells #[.string T, .int .i64 x, .int .i64 y] 120)).setCell ⟨(w.heap.size + 1 + 1 + 1), 3, none⟩ (.string T)) := ⟨_, rfl⟩
  rw [← hW9] at fP6 fQ6 fR6 fS6 fN6 C6 K6 ⊢
  have sz9 : ((W4.alloc (.cells #[.string T, .int .i64 x, .int .i64 y] 120)).setCell ⟨(w.heap.size + 1 + 1 + 1), 3, none⟩ (.string T)).heap.size ≤ W9.heap.size := by rw [hW9]; exact Nat.le_refl _
  clear hW9
  refine ((unhide hd) _ C6).mono ?_
  rintro e W10 ⟨sl, rfl, hbp, C10, J10⟩
  have sz10 := J10.size
  have fP10 : W10.heap[w.heap.size]? = some (.cells #[.pointer (some ⟨B, 0, none⟩)] 83 (0, 0)) := (J10.block _ (by omega) (by omega)).trans fP6
  have fQ10 : W10.heap[(w.heap.size + 1)]? = some (.cells #[.int .i64 t.ln, .int .i64 t.co] 28 (0, 0)) := (J10.block _ (by omega) (by omega)).trans fQ6
  have fR10 : W10.heap[(w.heap.size + 1 + 1)]? = some (.cells #[.int .i64 0, .string ⟨#[]⟩, .string ⟨#[]⟩, .string ⟨#[]⟩, .slice none 0 0, .slice none 0 0, .slice none 0 0, .int .i64 0, .int .i64 0] 57 (0, 0)) := (J10.block _ (by omega) (by omega)).trans fR6
  have fS10 : W10.heap[(w.heap.size + 1 + 1 + 1)]? = some (.cells #[.int .i64 3, .string ⟨#[]⟩, .string ⟨#[]⟩, .string T, .slice none 0 0, .slice none 0 0, .slice none 0 0, .int .i64 t.ln, .int .i64 t.co] 57 (0, 0)) := (J10.block _ (by omega) (by omega)).trans fS6
  have fN10 : W10.heap[W4.heap.size]? = some (.cells #[.string T, .int .i64 x, .int .i64 y] 120 (0, 0)) := (J10.block _ (by omega) (by omega)).trans fN6
  have K10 := K6.trans J10
  clear fP6 fQ6 fR6 fS6 fN6 K6 C6 J10
  obtain ⟨a2, n2, c2, rfl, sD10⟩ := brkD_form hbp
  clear hbp hd
  have sD_le := sz10
  have cS12_5 : W10.cell? ⟨(w.heap.size + 1 + 1 + 1), 5, none⟩ = some (.slice none 0 0) := (dt.cell_cells fS10 5).trans rfl
  have zS12_5 : W10.frozen? ⟨(w.heap.size + 1 + 1 + 1), 5, none⟩ = false := dt.frozen_cells fS10 5
  have fP11 : (W10.setCell ⟨(w.heap.size + 1 + 1 + 1), 5, none⟩ (.slice a2 n2 c2)).heap[w.heap.size]? = some (.cells #[.pointer (some ⟨B, 0, none⟩)] 83 (0, 0)) := (Below.heap_setCell W10 _ _ _ (show w.heap.size ≠ (w.heap.size + 1 + 1 + 1) by omega)).trans fP10
  have fQ11 : (W10.setCell ⟨(w.heap.size + 1 + 1 + 1), 5, none⟩ (.slice a2 n2 c2)).heap[(w.heap.size + 1)]? = some (.cells #[.int .i64 t.ln, .int .i64 t.co] 28 (0, 0)) := (Below.heap_setCell W10 _ _ _ (show (w.heap.size + 1) ≠ (w.heap.size + 1 + 1 + 1) by omega)).trans fQ10
  have fR11 : (W10.setCell ⟨(w.heap.size + 1 + 1 + 1), 5, none⟩ (.slice a2 n2 c2)).heap[(w.heap.size + 1 + 1)]? = some (.cells #[.int .i64 0, .string ⟨#[]⟩, .string ⟨#[]⟩, .string ⟨#[]⟩, .slice none 0 0, .slice none 0 0, .slice none 0 0, .int .i64 0, .int .i64 0] 57 (0, 0)) := (Below.heap_setCell W10 _ _ _ (show (w.heap.size + 1 + 1) ≠ (w.heap.size + 1 + 1 + 1) by omega)).trans fR10
  have fS11 : (W10.setCell ⟨(w.heap.size + 1 + 1 + 1), 5, none⟩ (.slice a2 n2 c2)).heap[(w.heap.size + 1 + 1 + 1)]? = some (.cells #[.int .i64 3, .string ⟨#[]⟩, .string ⟨#[]⟩, .string T, .slice none 0 0, .slice a2 n2 c2, .slice none 0 0, .int .i64 t.ln, .int .i64 t.co] 57 (0, 0)) := (dt.heap_setCell_at fS10 5 _).trans rfl
  have fN11 : (W10.setCell ⟨(w.heap.size + 1 + 1 + 1), 5, none⟩ (.slice a2 n2 c2)).heap[W4.heap.size]? = some (.cells #[.string T, .int .i64 x, .int .i64 y] 120 (0, 0)) := (Below.heap_setCell W10 _ _ _ (show W4.heap.size ≠ (w.heap.size + 1 + 1 + 1) by omega)).trans fN10
  have sz11 : W10.heap.size ≤ (W10.setCell ⟨(w.heap.size + 1 + 1 + 1), 5, none⟩ (.slice a2 n2 c2)).heap.size := Nat.le_of_eq (size_setC _ _ _ _).symm
  have C11 := C10.outC (b := (w.heap.size + 1 + 1 + 1)) (by omega) (by omega) 5 (.slice a2 n2 c2)
  have K11 := K10.setB (b := (w.heap.size + 1 + 1 + 1)) (by omega) 5 (.slice a2 n2 c2)
  have sD11 := sD10.outC (b := (w.heap.size + 1 + 1 + 1)) (by omega) 5 (.slice a2 n2 c2)
  have cP13_0 : (W10.setCell ⟨(w.heap.size + 1 + 1 + 1), 5, none⟩ (.slice a2 n2 c2)).cell? ⟨w.heap.size, 0, none⟩ = some (.pointer (some ⟨B, 0, none⟩)) := (dt.cell_cells fP11 0).trans rfl
  go_wp2_with fail
  obtain ⟨W14, hW14⟩ : ∃ W14, W14 = (W10.setCell ⟨(w.heap.size + 1 + 1 + 1), 5, none⟩ (.slice a2 n2 c2)) := ⟨_, rfl⟩
  rw [← hW14] at fP11 fQ11 fR11 fS11 fN11 sD11 C11 K11 ⊢
  have sz14 : (W10.setCell ⟨(w.heap.size + 1 + 1 + 1), 5, none⟩ (.slice a2 n2 c2)).heap.size ≤ W14.heap.size := by rw [hW14]; exact Nat.le_refl _
  clear hW14
  refine ((unhide hss) _ C11).mono ?_
  rintro e W15 ⟨sl, rfl, hbp, C15, J15⟩
  have sz15 := J15.size
  have fP15 : W15.heap[w.heap.size]? = some (.cells #[.pointer (some ⟨B, 0, none⟩)] 83 (0, 0)) := (J15.block _ (by omega) (by omega)).trans fP11
  have fQ15 : W15.heap[(w.heap.size + 1)]? = some (.cells #[.int .i64 t.ln, .int .i64 t.co] 28 (0, 0)) := (J15.block _ (by omega) (by omega)).trans fQ11
  have fR15 : W15.heap[(w.heap.size + 1 + 1)]? = some (.cells #[.int .i64 0, .string ⟨#[]⟩, .string ⟨#[]⟩, .string ⟨#[]⟩, .slice none 0 0, .slice none 0 0, .slice none 0 0, .int .i64 0, .int .i64 0] 57 (0, 0)) := (J15.block _ (by omega) (by omega)).trans fR11
  have fS15 : W15.heap[(w.heap.size + 1 + 1 + 1)]? = some (.cells #[.int .i64 3, .string ⟨#[]⟩, .string ⟨#[]⟩, .string T, .slice none 0 0, .slice a2 n2 c2, .slice none 0 0, .int .i64 t.ln, .int .i64 t.co] 57 (0, 0)) := (J15.block _ (by omega) (by omega)).trans fS11
  have fN15 : W15.heap[W4.heap.size]? = some (.cells #[.string T, .int .i64 x, .int .i64 y] 120 (0, 0)) := (J15.block _ (by omega) (by omega)).trans fN11
  have sD15 := sD11.kp J15 (by omega)
  have K15 := K11.trans J15
  clear fP11 fQ11 fR11 fS11 fN11 sD11 K11 C11 J15
  obtain ⟨a3, n3, c3, F3, rfl, sE15⟩ := brkS_form hbp
  have sE_le := sz15
  clear hbp hss
  have cS17_6 : W15.cell? ⟨(w.heap.size + 1 + 1 + 1), 6, none⟩ = some (.slice none 0 0) := (dt.cell_cells fS15 6).trans rfl
  have zS17_6 : W15.frozen? ⟨(w.heap.size + 1 + 1 + 1), 6, none⟩ = false := dt.frozen_cells fS15 6
  have fP16 : (W15.setCell ⟨(w.heap.size + 1 + 1 + 1), 6, none⟩ (.slice a3 n3 c3)).heap[w.heap.size]? = some (.cells #[.pointer (some ⟨B, 0, none⟩)] 83 (0, 0)) := (Below.heap_setCell W15 _ _ _ (show w.heap.size ≠ (w.heap.size + 1 + 1 + 1) by omega)).trans fP15
  have fQ16 : (W15.setCell ⟨(w.heap.size + 1 + 1 + 1), 6, none⟩ (.slice a3 n3 c3)).heap[(w.heap.size + 1)]? = some (.cells #[.int .i64 t.ln, .int .i64 t.co] 28 (0, 0)) := (Below.heap_setCell W15 _ _ _ (show (w.heap.size + 1) ≠ (w.heap.size + 1 + 1 + 1) by omega)).trans fQ15
  have fR16 : (W15.setCell ⟨(w.heap.size + 1 + 1 + 1), 6, none⟩ (.slice a3 n3 c3)).heap[(w.heap.size + 1 + 1)]? = some (.cells #[.int .i64 0, .string ⟨#[]⟩, .string ⟨#[]⟩, .string ⟨#[]⟩, .slice none 0 0, .slice none 0 0, .slice none 0 0, .int .i64 0, .int .i64 0] 57 (0, 0)) := (Below.heap_setCell W15 _ _ _ (show (w.heap.size + 1 + 1) ≠ (w.heap.size + 1 + 1 + 1) by omega)).trans fR15
  have fS16 : (W15.setCell ⟨(w.heap.size + 1 + 1 + 1), 6, none⟩ (.slice a3 n3 c3)).heap[(w.heap.size + 1 + 1 + 1)]? = some (.cells #[.int .i64 3, .string ⟨#[]⟩, .string ⟨#[]⟩, .string T, .slice none 0 0, .slice a2 n2 c2, .slice a3 n3 c3, .int .i64 t.ln, .int .i64 t.co] 57 (0, 0)) := (dt.heap_setCell_at fS15 6 _).trans rfl
  have fN16 : (W15.setCell ⟨(w.heap.size + 1 + 1 + 1), 6, none⟩ (.slice a3 n3 c3)).heap[W4.heap.size]? = some (.cells #[.string T, .int .i64 x, .int .i64 y] 120 (0, 0)) := (Below.heap_setCell W15 _ _ _ (show W4.heap.size ≠ (w.heap.size + 1 + 1 + 1) by omega)).trans fN15
  have sz16 : W15.heap.size ≤ (W15.setCell ⟨(w.heap.size + 1 + 1 + 1), 6, none⟩ (.slice a3 n3 c3)).heap.size := Nat.le_of_eq (size_setC _ _ _ _).symm
  have C16 := C15.outC (b := (w.heap.size + 1 + 1 + 1)) (by omega) (by omega) 6 (.slice a3 n3 c3)
  have K16 := K15.setB (b := (w.heap.size + 1 + 1 + 1)) (by omega) 6 (.slice a3 n3 c3)
  have sD16 := sD15.outC (b := (w.heap.size + 1 + 1 + 1)) (by omega) 6 (.slice a3 n3 c3)
  have sE16 := sE15.outC (b := (w.heap.size + 1 + 1 + 1)) (by omega) 6 (.slice a3 n3 c3)
  have cS18_0 : (W15.setCell ⟨(w.heap.size + 1 + 1 + 1), 6, none⟩ (.slice a3 n3 c3)).cell? ⟨(w.heap.size + 1 + 1 + 1), 0, none⟩ = some (.int .i64 3) := (dt.cell_cells fS16 0).trans rfl
  have cS18_1 : (W15.setCell ⟨(w.heap.size + 1 + 1 + 1), 6, none⟩ (.slice a3 n3 c3)).cell? ⟨(w.heap.size + 1 + 1 + 1), 1, none⟩ = some (.string ⟨#[]⟩) := (dt.cell_cells fS16 1).trans rfl
  have cS18_2 : (W15.setCell ⟨(w.heap.size + 1 + 1 + 1), 6, none⟩ (.slice a3 n3 c3)).cell? ⟨(w.heap.size + 1 + 1 + 1), 2, none⟩ = some (.string ⟨#[]⟩) := (dt.cell_cells fS16 2).trans rfl
  have cS18_3 : (W15.setCell ⟨(w.heap.size + 1 + 1 + 1), 6, none⟩ (.slice a3 n3 c3)).cell? ⟨(w.heap.size + 1 + 1 + 1), 3, none⟩ = some (.string T) := (dt.cell_cells fS16 3).trans rfl
  have cS18_4 : (W15.setCell ⟨(w.heap.size + 1 + 1 + 1), 6, none⟩ (.slice a3 n3 c3)).cell? ⟨(w.heap.size + 1 + 1 + 1), 4, none⟩ = some (.slice none 0 0) := (dt.cell_cells fS16 4).trans rfl
  have cS18_5 : (W15.setCell ⟨(w.heap.size + 1 + 1 + 1), 6, none⟩ (.slice a3 n3 c3)).cell? ⟨(w.heap.size + 1 + 1 + 1), 5, none⟩ = some (.slice a2 n2 c2) := (dt.cell_cells fS16 5).trans rfl
  have cS18_6 : (W15.setCell ⟨(w.heap.size + 1 + 1 + 1), 6, none⟩ (.slice a3 n3 c3)).cell? ⟨(w.heap.size + 1 + 1 + 1), 6, none⟩ = some (.slice a3 n3 c3) := (dt.cell_cells fS16 6).trans rfl
  have cS18_7 : (W15.setCell ⟨(w.heap.size + 1 + 1 + 1), 6, none⟩ (.slice a3 n3 c3)).cell? ⟨(w.heap.size + 1 + 1 + 1), 7, none⟩ = some (.int .i64 t.ln) := (dt.cell_cells fS16 7).trans rfl
  have cS18_8 : (W15.setCell ⟨(w.heap.size + 1 + 1 + 1), 6, none⟩ (.slice a3 n3 c3)).cell? ⟨(w.heap.size + 1 + 1 + 1), 8, none⟩ = some (.int .i64 t.co) := (dt.cell_cells fS16 8).trans rfl
  have HT := hide (dt.there_cells fR16 (o := 0) (n := 9) (by decide))
  have HF := hide (And.intro C16 (And.intro K16 (And.intro sD16 sE16)))
  clear C16 K16 sD16 sE16
  go_wp2_with (first
   | refine wpList_store_mid (by rfl) 57 _ _ (by rfl) (w.heap.size + 1 + 1) 0 (selC 3 em em T none 0 0 a2 n2 c2 a3 n3 c3 t.ln t.co).toArray (by rfl) (by rfl) (unhide HT) infoSel (dt.one_cells (cs := selC 3 em em T none 0 0 a2 n2 c2 a3 n3 c3 t.ln t.co) (by rfl)) ?_)
  refine bodyPost_ret (rgn.result_row_tmp rfl _ _ (w.heap.size + 1 + 1) 0 (selC 3 em em T none 0 0 a2 n2 c2 a3 n3 c3 t.ln t.co) _ rfl (World.rangeAt_setCells_same _ _ _ _ (unhide HT)) Tryz.underlying57 rfl infoSel) rfl ?_
  obtain ⟨hC, hK, hD, hE⟩ := unhide HF
  rw [unhide HV]
  cases q with
  | none =>
   exact ⟨_, [], rfl, ⟨⟨_, _, _, _, _, _, _, _, _, _, _, _, _, _, _, rfl⟩, fun d e => by cases e⟩, hC.out (by omega) (by omega) _ _, hK.out (by omega) _ _⟩
  | some ss =>
   obtain ⟨l, rfl⟩ := (unhide HSO) rfl
   obtain ⟨F2, hD⟩ := hD l rfl
   have hD2 := hD.out (b := w.heap.size + 1 + 1) (.inl (by omega)) 0 (selC 3 em em T none 0 0 a2 n2 c2 a3 n3 c3 t.ln t.co)
   have hE2 := hE.out (b := w.heap.size + 1 + 1) (.inl (by omega)) 0 (selC 3 em em T none 0 0 a2 n2 c2 a3 n3 c3 t.ln t.co)
   obtain ⟨F', o1, o2, o3⟩ := sel_ow (Sh.nil (lo := w.heap.size) (hi := 0) (by omega)) hD2 hE2 (by omega) (by omega) (by omega) 3 em em T t.ln t.co w.heap.size (by omega) (by omega) (by omega)
   exact ⟨_, F', rfl, ⟨⟨_, _, _, _, _, _, _, _, _, _, _, _, _, _, _, rfl⟩, fun d e => by obtain rfl := Option.some.inj e; exact ⟨o1, o2, o3⟩⟩, hC.out (by omega) (by omega) _ _, hK.out (by omega) _ _⟩
theorem field_form (L : Cu → Option Dt × Cu) (S : Cu → Option (List Dt) × Cu) (t : Tk) (c : Cu) :
  ((dirs L (argsS L (fldC c)).2).2.isP bLc = true → fieldS L S t c = ((S (dirs L (argsS L (fldC c)).2).2).1.map fun ss => selD 1 (fldA c) (fldN c) em ((argsS L (fldC c)).1.getD []) ((dirs L (argsS L (fldC c)).2).1.getD []) ss t.ln t.co, (S (dirs L (argsS L (fldC c)).2).2).2)) ∧
  ((dirs L (argsS L (fldC c)).2).2.isP bLc = false → fieldS L S t c = ((dirs L (argsS L (fldC c)).2).1.map fun ds => selD 1 (fldA c) (fldN c) em ((argsS L (fldC c)).1.getD []) ds [] t.ln t.co, (dirs L (argsS L (fldC c)).2).2)) := by
 constructor
 ·intro h
  simp only [fieldS]
  rw [if_pos h]
  cases (S (dirs L (argsS L (fldC c)).2).2).1 <;> rfl
 ·intro h
  simp only [fieldS]
  rw [if_neg (by rw [h]; decide)]
  cases (dirs L (argsS L (fldC c)).2).1 <;> rfl
set_option maxRecDepth 4000 in
set_option maxHeartbeats 8000000 in
theorem sfield_ok (L : Cu → Option Dt × Cu) (S : Cu → Option (List Dt) × Cu) (c : Cu) (t : Tk) (hc0 : c.Ok) (hA : ArgsAt (argsS L) false (fldC c)) (hD : DirsAt (dirs L) false (argsS L (fldC c)).2) (hS : (dirs L (argsS L (fldC c)).2).2.isP bLc = true → SelsAt S (dirs L (argsS L (fldC c)).2).2) (hsome : (fieldS L S t c).1.isSome = true → ∃ l, (dirs L (argsS L (fldC c)).2).1 = some l) : SelPs 93 (fieldS L S t) t.ln t.co c := by
 intro B p w h
 have hlt := h.lt
 have hplt := h.plt
 have hn := hide (fun W (hc : CurAt W B p c) => nameAny_ok B p c W hc)
 have hpu := hide (fun W (hc : CurAt W B p c.name) => punct_ok B p c.name bCol W hc)
 have hn2 := hide (fun W (hc : CurAt W B p c.name.take) => nameAny_ok B p c.name.take W hc)
 have ha := hide (fun W (hc : CurAt W B p (fldC c)) => hA B p W hc)
 have hd := hide (fun W (hc : CurAt W B p (argsS L (fldC c)).2) => hD B p W hc)
 have hip := hide (fun W (hc : CurAt W B p (dirs L (argsS L (fldC c)).2).2) => isPunct_ok B p _ bLc W hc)
 have hss := hide (fun hq W (hc : CurAt W B p (dirs L (argsS L (fldC c)).2).2) => hS hq B p W hc)
 have hVV := field_form L S t c
 obtain ⟨V, hV⟩ : ∃ V, V = fieldS L S t c := ⟨_, rfl⟩
 rw [← hV] at hVV hsome ⊢
 clear hV
 obtain ⟨UA, hUA⟩ : ∃ UA, UA = argsS L (fldC c) := ⟨_, rfl⟩
 rw [← hUA] at ha hd hss hVV hsome hip
 obtain ⟨ra, A⟩ := UA
 simp only at ha hd hss hVV hsome hip
 obtain ⟨U, hU⟩ : ∃ U, U = dirs L A := ⟨_, rfl⟩
 rw [← hU] at hd hss hVV hsome hip
 obtain ⟨r, D⟩ := U
 simp only at hd hss hVV hsome hip
 obtain ⟨X, hX⟩ : ∃ X, X = S D := ⟨_, rfl⟩
 rw [← hX] at hss hVV
 obtain ⟨q, E⟩ := X
 simp only at hss hVV
 have HV := hide hVV
 have HSO := hide hsome
 obtain ⟨G, hG⟩ : ∃ G, G = D.isP bLc := ⟨_, rfl⟩
 rw [← hG] at hip hss HV
 have hfc := hide (show fldC c = if c.name.isP bCol then c.name.take.name else c.name from rfl)
 have hfn := hide (show fldN c = if c.name.isP bCol then c.name.take.nmS else c.nmS from rfl)
 have hfa := hide (show fldA c = if c.name.isP bCol then c.nmS else em from rfl)
 have hpc := hide (show c.name.punct bCol = if c.name.isP bCol then c.name.take else c.name from rfl)
 rw [nmT_form] at hn hn2
 have hm1 := hide (show c.nmS = if c.isN then c.tok.tx else em from rfl)
 have hm2 := hide (show c.name.take.nmS = if c.name.take.isN then c.name.take.tok.tx else em from rfl)
 obtain ⟨n1, hn1⟩ : ∃ n1, n1 = if c.isN then c.tok.tx else em := ⟨_, rfl⟩
 rw [← hn1] at hn hm1
 obtain ⟨x1, hx1⟩ : ∃ x1, x1 = if c.isN then c.tok.ln else 0 := ⟨_, rfl⟩
 obtain ⟨y1, hy1⟩ : ∃ y1, y1 = if c.isN then c.tok.co else 0 := ⟨_, rfl⟩
 rw [← hx1, ← hy1] at hn
 obtain ⟨nn, hnn⟩ : ∃ nn, nn = if c.name.take.isN then c.name.take.tok.tx else em := ⟨_, rfl⟩
 rw [← hnn] at hn2 hm2
 obtain ⟨x2, hx2⟩ : ∃ x2, x2 = if c.name.take.isN then c.name.take.tok.ln else 0 := ⟨_, rfl⟩
 obtain ⟨y2, hy2⟩ : ∃ y2, y2 = if c.name.take.isN then c.name.take.tok.co else 0 := ⟨_, rfl⟩
 rw [← hx2, ← hy2] at hn2
 obtain ⟨M, hM⟩ : ∃ M, M = fldC c := ⟨_, rfl⟩
 rw [← hM] at ha hfc
 obtain ⟨fn, hfn'⟩ : ∃ fn, fn = fldN c := ⟨_, rfl⟩
 rw [← hfn'] at HV hfn
 obtain ⟨fa, hfa'⟩ : ∃ fa, fa = fldA c := ⟨_, rfl⟩
 rw [← hfa'] at HV hfa
 obtain ⟨o1, ho1⟩ : ∃ o1, o1 = c.nmS := ⟨_, rfl⟩
 rw [← ho1] at hfn hfa hm1
 obtain rfl : o1 = n1 := unhide hm1
 obtain ⟨o2, ho2⟩ : ∃ o2, o2 = c.name.take.nmS := ⟨_, rfl⟩
 rw [← ho2] at hfn hm2
 obtain rfl : o2 = nn := unhide hm2
 obtain ⟨N2, hN2⟩ : ∃ N2, N2 = c.name.take.name := ⟨_, rfl⟩
 rw [← hN2] at hn2 hfc
 obtain ⟨Z, hZ⟩ : ∃ Z, Z = c.name.take := ⟨_, rfl⟩
 rw [← hZ] at hn2 hpc
 obtain ⟨Y, hY⟩ : ∃ Y, Y = c.name.punct bCol := ⟨_, rfl⟩
 rw [← hY] at hpu hpc
 obtain ⟨IP, hIP⟩ : ∃ IP, IP = c.name.isP bCol := ⟨_, rfl⟩
 rw [← hIP] at hpu hpc hfa hfc hfn
 obtain ⟨N1, hN1⟩ : ∃ N1, N1 = c.name := ⟨_, rfl⟩
 rw [← hN1] at hn hpu hfc hpc
 clear hS hA hD hU hUA hX hG hVV hsome hn1 hx1 hy1 hnn hx2 hy2 hM hfn' hfa' ho1 ho2 hN2 hZ hY hIP hN1 hm1 hm2
 unfold ptr at hn hn2 hd ha hip hpu
 unfold par at hss ⊢
 go_enter Tryz.func93, Tryz.ntmps93
 go_wp2_with fail
 obtain ⟨W1, hW1⟩ : ∃ W1, W1 = allocs w [(#[.pointer (some ⟨B, 0, none⟩)], 83), (#[.int .i64 t.ln, .int .i64 t.co], 28), (#[.int .i64 0, .string ⟨#[]⟩, .string ⟨#[]⟩, .string ⟨#[]⟩, .slice none 0 0, .slice none 0 0, .slice none 0 0, .int .i64 0, .int .i64 0], 57), (#[.int .i64 1, .string ⟨#[]⟩, .string ⟨#[]⟩, .string ⟨#[]⟩, .slice none 0 0, .slice none 0 0, .slice none 0 0, .int .i64 t.ln, .int .i64 t.co], 57)] := ⟨_, rfl⟩
 have gW1 : W1 = ((((w.alloc (.cells #[.pointer (some ⟨B, 0, none⟩)] 83)).alloc (.cells #[.int .i64 t.ln, .int .i64 t.co] 28)).alloc (.cells #[.int .i64 0, .string ⟨#[]⟩, .string ⟨#[]⟩, .string ⟨#[]⟩, .slice none 0 0, .slice none 0 0, .slice none 0 0, .int .i64 0, .int .i64 0] 57)).alloc (.cells #[.int .i64 1, .string ⟨#[]⟩, .string ⟨#[]⟩, .string ⟨#[]⟩, .slice none 0 0, .slice none 0 0, .slice none 0 0, .int .i64 t.ln, .int .i64 t.co] 57)) := hW1
 have aa := allocs_at [(#[.pointer (some ⟨B, 0, none⟩)], 83), (#[.int .i64 t.ln, .int .i64 t.co], 28), (#[.int .i64 0, .string ⟨#[]⟩, .string ⟨#[]⟩, .string ⟨#[]⟩, .slice none 0 0, .slice none 0 0, .slice none 0 0, .int .i64 0, .int .i64 0], 57), (#[.int .i64 1, .string ⟨#[]⟩, .string ⟨#[]⟩, .string ⟨#[]⟩, .slice none 0 0, .slice none 0 0, .slice none 0 0, .int .i64 t.ln, .int .i64 t.co], 57)] w
 have fP1 : W1.heap[w.heap.size]? = some (.cells #[.pointer (some ⟨B, 0, none⟩)] 83 (0, 0)) := by rw [hW1]; exact aa 0 _ rfl
 have fQ1 : W1.heap[(w.heap.size + 1)]? = some (.cells #[.int .i64 t.ln, .int .i64 t.co] 28 (0, 0)) := by rw [hW1]; exact aa 1 _ rfl
 have fR1 : W1.heap[(w.heap.size + 1 + 1)]? = some (.cells #[.int .i64 0, .string ⟨#[]⟩, .string ⟨#[]⟩, .string ⟨#[]⟩, .slice none 0 0, .slice none 0 0, .slice none 0 0, .int .i64 0, .int .i64 0] 57 (0, 0)) := by rw [hW1]; exact aa 2 _ rfl
 have fS1 : W1.heap[(w.heap.size + 1 + 1 + 1)]? = some (.cells #[.int .i64 1, .string ⟨#[]⟩, .string ⟨#[]⟩, .string ⟨#[]⟩, .slice none 0 0, .slice none 0 0, .slice none 0 0, .int .i64 t.ln, .int .i64 t.co] 57 (0, 0)) := by rw [hW1]; exact aa 3 _ rfl
 have bw : Below w.heap.size w W1 := by rw [hW1]; exact allocs_below _ _
 have sz1 : w.heap.size + 4 ≤ W1.heap.size := by rw [hW1, allocs_size]; exact Nat.le_refl _
 have K1 : Kp B w W1 := Kp.of bw
 have C1 := h.below bw
 rw [← gW1]
 clear gW1 hW1 bw aa h
 refine ((unhide hn) _ C1).mono ?_
 rintro e W2 ⟨rfl, C2, J2⟩
 have sz2 := J2.size
 have fP2 : W2.heap[w.heap.size]? = some (.cells #[.pointer (some ⟨B, 0, none⟩)] 83 (0, 0)) := (J2.block _ (by omega) (by omega)).trans fP1
 have fQ2 : W2.heap[(w.heap.size + 1)]? = some (.cells #[.int .i64 t.ln, .int .i64 t.co] 28 (0, 0)) := (J2.block _ (by omega) (by omega)).trans fQ1
 have fR2 : W2.heap[(w.heap.size + 1 + 1)]? = some (.cells #[.int .i64 0, .string ⟨#[]⟩, .string ⟨#[]⟩, .string ⟨#[]⟩, .slice none 0 0, .slice none 0 0, .slice none 0 0, .int .i64 0, .int .i64 0] 57 (0, 0)) := (J2.block _ (by omega) (by omega)).trans fR1
 have fS2 : W2.heap[(w.heap.size + 1 + 1 + 1)]? = some (.cells #[.int .i64 1, .string ⟨#[]⟩, .string ⟨#[]⟩, .string ⟨#[]⟩, .slice none 0 0, .slice none 0 0, .slice none 0 0, .int .i64 t.ln, .int .i64 t.co] 57 (0, 0)) := (J2.block _ (by omega) (by omega)).trans fS1
 have K2 := K1.trans J2
 clear fP1 fQ1 fR1 fS1 K1 C1 J2
 clear hn
 have fP3 : (W2.alloc (.cells #[.string o1, .int .i64 x1, .int .i64 y1] 120)).heap[w.heap.size]? = some (.cells #[.pointer (some ⟨B, 0, none⟩)] 83 (0, 0)) := (Below.heap_alloc W2 _ _ (by omega)).trans fP2
 have fQ3 : (W2.alloc (.cells #[.string o1, .int .i64 x1, .int .i64 y1] 120)).heap[(w.heap.size + 1)]? = some (.cells #[.int .i64 t.ln, .int .i64 t.co] 28 (0, 0)) := (Below.heap_alloc W2 _ _ (by omega)).trans fQ2
 have fR3 : (W2.alloc (.cells #[.string o1, .int .i64 x1, .int .i64 y1] 120)).heap[(w.heap.size + 1 + 1)]? = some (.cells #[.int .i64 0, .string ⟨#[]⟩, .string ⟨#[]⟩, .string ⟨#[]⟩, .slice none 0 0, .slice none 0 0, .slice none 0 0, .int .i64 0, .int .i64 0] 57 (0, 0)) := (Below.heap_alloc W2 _ _ (by omega)).trans fR2
 have fS3 : (W2.alloc (.cells #[.string o1, .int .i64 x1, .int .i64 y1] 120)).heap[(w.heap.size + 1 + 1 + 1)]? = some (.cells #[.int .i64 1, .string ⟨#[]⟩, .string ⟨#[]⟩, .string ⟨#[]⟩, .slice none 0 0, .slice none 0 0, .slice none 0 0, .int .i64 t.ln, .int .i64 t.co] 57 (0, 0)) := (Below.heap_alloc W2 _ _ (by omega)).trans fS2
 have fN3 : (W2.alloc (.cells #[.string o1, .int .i64 x1, .int .i64 y1] 120)).heap[W2.heap.size]? = some (.cells #[.string o1, .int .i64 x1, .int .i64 y1] 120 (0, 0)) := heap_alloc_new _ _
 have sz3 : W2.heap.size + 1 ≤ (W2.alloc (.cells #[.string o1, .int .i64 x1, .int .i64 y1] 120)).heap.size := by rw [World.size_alloc]; exact Nat.le_refl _
 have bb3 : Below W2.heap.size W2 (W2.alloc (.cells #[.string o1, .int .i64 x1, .int .i64 y1] 120)) := (Below.refl _ _).alloc (Nat.le_refl _) _
 have C3 := C2.below bb3
 have K3 := K2.trans (Kp.of bb3)
 have cP4_0 : (W2.alloc (.cells #[.string o1, .int .i64 x1, .int .i64 y1] 120)).cell? ⟨w.heap.size, 0, none⟩ = some (.pointer (some ⟨B, 0, none⟩)) := (dt.cell_cells fP3 0).trans rfl
 go_wp2_with fail
 obtain ⟨W5, hW5⟩ : ∃ W5, W5 = (W2.alloc (.cells #[.string o1, .int .i64 x1, .int .i64 y1] 120)) := ⟨_, rfl⟩
 rw [← hW5] at fP3 fQ3 fR3 fS3 fN3 C3 K3 ⊢
 have sz5 : (W2.alloc (.cells #[.string o1, .int .i64 x1, .int .i64 y1] 120)).heap.size ≤ W5.heap.size := by rw [hW5]; exact Nat.le_refl _
 clear hW5
 refine ((unhide hpu) _ C3).mono ?_
 rintro e W6 ⟨rfl, C6, J6⟩
 have sz6 := J6.size
 have fP6 : W6.heap[w.heap.size]? = some (.cells #[.pointer (some ⟨B, 0, none⟩)] 83 (0, 0)) := (J6.block _ (by omega) (by omega)).trans fP3
 have fQ6 : W6.heap[(w.heap.size + 1)]? = some (.cells #[.int .i64 t.ln, .int .i64 t.co] 28 (0, 0)) := (J6.block _ (by omega) (by omega)).trans fQ3
 have fR6 : W6.heap[(w.heap.size + 1 + 1)]? = some (.cells #[.int .i64 0, .string ⟨#[]⟩, .string ⟨#[]⟩, .string ⟨#[]⟩, .slice none 0 0, .slice none 0 0, .slice none 0 0, .int .i64 0, .int .i64 0] 57 (0, 0)) := (J6.block _ (by omega) (by omega)).trans fR3
 have fS6 : W6.heap[(w.heap.size + 1 + 1 + 1)]? = some (.cells #[.int .i64 1, .string ⟨#[]⟩, .string ⟨#[]⟩, .string ⟨#[]⟩, .slice none 0 0, .slice none 0 0, .slice none 0 0, .int .i64 t.ln, .int .i64 t.co] 57 (0, 0)) := (J6.block _ (by omega) (by omega)).trans fS3
 have fN6 : W6.heap[W2.heap.size]? = some (.cells #[.string o1, .int .i64 x1, .int .i64 y1] 120 (0, 0)) := (J6.block _ (by omega) (by omega)).trans fN3
 have K6 := K3.trans J6
 clear fP3 fQ3 fR3 fS3 fN3 K3 C3 J6
 clear hpu
 cases IP
 ·obtain rfl : Y = N1 := unhide hpc
  obtain rfl : M = Y := unhide hfc
  obtain rfl : fn = o1 := unhide hfn
  obtain rfl : fa = em := unhide hfa
  clear hpc hfc hfn hfa hn2
  have cN7_0 : W6.cell? ⟨W2.heap.size, 0, none⟩ = some (.string fn) := (dt.cell_cells fN6 0).trans rfl
  have cS9_2 : W6.cell? ⟨(w.heap.size + 1 + 1 + 1), 2, none⟩ = some (.string ⟨#[]⟩) := (dt.cell_cells fS6 2).trans rfl
  have zS9_2 : W6.frozen? ⟨(w.heap.size + 1 + 1 + 1), 2, none⟩ = false := dt.frozen_cells fS6 2
  have fP8 : (W6.setCell ⟨(w.heap.size + 1 + 1 + 1), 2, none⟩ (.string fn)).heap[w.heap.size]? = some (.cells #[.pointer (some ⟨B, 0, none⟩)] 83 (0, 0)) := (Below.heap_setCell W6 _ _ _ (show w.heap.size ≠ (w.heap.size + 1 + 1 + 1) by omega)).trans fP6
  have fQ8 : (W6.setCell ⟨(w.heap.size + 1 + 1 + 1), 2, none⟩ (.string fn)).heap[(w.heap.size + 1)]? = some (.cells #[.int .i64 t.ln, .int .i64 t.co] 28 (0, 0)) := (Below.heap_setCell W6 _ _ _ (show (w.heap.size + 1) ≠ (w.heap.size + 1 + 1 + 1) by omega)).trans fQ6
  have fR8 : (W6.setCell ⟨(w.heap.size + 1 + 1 + 1), 2, none⟩ (.string fn)).heap[(w.heap.size + 1 + 1)]? = some (.cells #[.int .i64 0, .string ⟨#[]⟩, .string ⟨#[]⟩, .string ⟨#[]⟩, .slice none 0 0, .slice none 0 0, .slice none 0 0, .int .i64 0, .int .i64 0] 57 (0, 0)) := (Below.heap_setCell W6 _ _ _ (show (w.heap.size + 1 + 1) ≠ (w.heap.size + 1 + 1 + 1) by omega)).trans fR6
  have fS8 : (W6.setCell ⟨(w.heap.size + 1 + 1 + 1), 2, none⟩ (.string fn)).heap[(w.heap.size + 1 + 1 + 1)]? = some (.cells #[.int .i64 1, .string ⟨#[]⟩, .string fn, .string ⟨#[]⟩, .slice none 0 0, .slice none 0 0, .slice none 0 0, .int .i64 t.ln, .int .i64 t.co] 57 (0, 0)) := (dt.heap_setCell_at fS6 2 _).trans rfl
  have fN8 : (W6.setCell ⟨(w.heap.size + 1 + 1 + 1), 2, none⟩ (.string fn)).heap[W2.heap.size]? = some (.cells #[.string fn, .int .i64 x1, .int .i64 y1] 120 (0, 0)) := (Below.heap_setCell W6 _ _ _ (show W2.heap.size ≠ (w.heap.size + 1 + 1 + 1) by omega)).trans fN6
  have sz8 : W6.heap.size ≤ (W6.setCell ⟨(w.heap.size + 1 + 1 + 1), 2, none⟩ (.string fn)).heap.size := Nat.le_of_eq (size_setC _ _ _ _).symm
  have C8 := C6.outC (b := (w.heap.size + 1 + 1 + 1)) (by omega) (by omega) 2 (.string fn)
  have K8 := K6.setB (b := (w.heap.size + 1 + 1 + 1)) (by omega) 2 (.string fn)
  have cP10_0 : (W6.setCell ⟨(w.heap.size + 1 + 1 + 1), 2, none⟩ (.string fn)).cell? ⟨w.heap.size, 0, none⟩ = some (.pointer (some ⟨B, 0, none⟩)) := (dt.cell_cells fP8 0).trans rfl
  go_wp2_with fail
  obtain ⟨W11, hW11⟩ : ∃ W11, W11 = (W6.setCell ⟨(w.heap.size + 1 + 1 + 1), 2, none⟩ (.string fn)) := ⟨_, rfl⟩
  rw [← hW11] at fP8 fQ8 fR8 fS8 fN8 C8 K8 ⊢
  have sz11 : (W6.setCell ⟨(w.heap.size + 1 + 1 + 1), 2, none⟩ (.string fn)).heap.size ≤ W11.heap.size := by rw [hW11]; exact Nat.le_refl _
  clear hW11
  refine ((unhide ha) _ C8).mono ?_
  rintro e W12 ⟨sl, rfl, hbp, C12, J12⟩
  have sz12 := J12.size
  have fP12 : W12.heap[w.heap.size]? = some (.cells #[.pointer (some ⟨B, 0, none⟩)] 83 (0, 0)) := (J12.block _ (by omega) (by omega)).trans fP8
  have fQ12 : W12.heap[(w.heap.size + 1)]? = some (.cells #[.int .i64 t.ln, .int .i64 t.co] 28 (0, 0)) := (J12.block _ (by omega) (by omega)).trans fQ8
  have fR12 : W12.heap[(w.heap.size + 1 + 1)]? = some (.cells #[.int .i64 0, .string ⟨#[]⟩, .string ⟨#[]⟩, .string ⟨#[]⟩, .slice none 0 0, .slice none 0 0, .slice none 0 0, .int .i64 0, .int .i64 0] 57 (0, 0)) := (J12.block _ (by omega) (by omega)).trans fR8
  have fS12 : W12.heap[(w.heap.size + 1 + 1 + 1)]? = some (.cells #[.int .i64 1, .string ⟨#[]⟩, .string fn, .string ⟨#[]⟩, .slice none 0 0, .slice none 0 0, .slice none 0 0, .int .i64 t.ln, .int .i64 t.co] 57 (0, 0)) := (J12.block _ (by omega) (by omega)).trans fS8
  have fN12 : W12.heap[W2.heap.size]? = some (.cells #[.string fn, .int .i64 x1, .int .i64 y1] 120 (0, 0)) := (J12.block _ (by omega) (by omega)).trans fN8
  have K12 := K8.trans J12
  clear fP8 fQ8 fR8 fS8 fN8 K8 C8 J12
  have loA := sz12
  obtain ⟨a1, k1, c1, F1, rfl, sA12⟩ := brkA_form loA hbp
  clear hbp ha
  have cS14_4 : W12.cell? ⟨(w.heap.size + 1 + 1 + 1), 4, none⟩ = some (.slice none 0 0) := (dt.cell_cells fS12 4).trans rfl
  have zS14_4 : W12.frozen? ⟨(w.heap.size + 1 + 1 + 1), 4, none⟩ = false := dt.frozen_cells fS12 4
  have fP13 : (W12.setCell ⟨(w.heap.size + 1 + 1 + 1), 4, none⟩ (.slice a1 k1 c1)).heap[w.heap.size]? = some (.cells #[.pointer (some ⟨B, 0, none⟩)] 83 (0, 0)) := (Below.heap_setCell W12 _ _ _ (show w.heap.size ≠ (w.heap.size + 1 + 1 + 1) by omega)).trans fP12
  have fQ13 : (W12.setCell ⟨(w.heap.size + 1 + 1 + 1), 4, none⟩ (.slice a1 k1 c1)).heap[(w.heap.size + 1)]? = some (.cells #[.int .i64 t.ln, .int .i64 t.co] 28 (0, 0)) := (Below.heap_setCell W12 _ _ _ (show (w.heap.size + 1) ≠ (w.heap.size + 1 + 1 + 1) by omega)).trans fQ12
  have fR13 : (W12.setCell ⟨(w.heap.size + 1 + 1 + 1), 4, none⟩ (.slice a1 k1 c1)).heap[(w.heap.size + 1 + 1)]? = some (.cells #[.int .i64 0, .string ⟨#[]⟩, .string ⟨#[]⟩, .string ⟨#[]⟩, .slice none 0 0, .slice none 0 0, .slice none 0 0, .int .i64 0, .int .i64 0] 57 (0, 0)) := (Below.heap_setCell W12 _ _ _ (show (w.heap.size + 1 + 1) ≠ (w.heap.size + 1 + 1 + 1) by omega)).trans fR12
  have fS13 : (W12.setCell ⟨(w.heap.size + 1 + 1 + 1), 4, none⟩ (.slice a1 k1 c1)).heap[(w.heap.size + 1 + 1 + 1)]? = some (.cells #[.int .i64 1, .string ⟨#[]⟩, .string fn, .string ⟨#[]⟩, .slice a1 k1 c1, .slice none 0 0, .slice none 0 0, .int .i64 t.ln, .int .i64 t.co] 57 (0, 0)) := (dt.heap_setCell_at fS12 4 _).trans rfl
  have fN13 : (W12.setCell ⟨(w.heap.size + 1 + 1 + 1), 4, none⟩ (.slice a1 k1 c1)).heap[W2.heap.size]? = some (.cells #[.string fn, .int .i64 x1, .int .i64 y1] 120 (0, 0)) := (Below.heap_setCell W12 _ _ _ (show W2.heap.size ≠ (w.heap.size + 1 + 1 + 1) by omega)).trans fN12
  have sz13 : W12.heap.size ≤ (W12.setCell ⟨(w.heap.size + 1 + 1 + 1), 4, none⟩ (.slice a1 k1 c1)).heap.size := Nat.le_of_eq (size_setC _ _ _ _).symm
  have C13 := C12.outC (b := (w.heap.size + 1 + 1 + 1)) (by omega) (by omega) 4 (.slice a1 k1 c1)
  have K13 := K12.setB (b := (w.heap.size + 1 + 1 + 1)) (by omega) 4 (.slice a1 k1 c1)
  have sA13 := sA12.outC (b := (w.heap.size + 1 + 1 + 1)) (by omega) 4 (.slice a1 k1 c1)
  have cP15_0 : (W12.setCell ⟨(w.heap.size + 1 + 1 + 1), 4, none⟩ (.slice a1 k1 c1)).cell? ⟨w.heap.size, 0, none⟩ = some (.pointer (some ⟨B, 0, none⟩)) := (dt.cell_cells fP13 0).trans rfl
  go_wp2_with fail
  obtain ⟨W16, hW16⟩ : ∃ W16, W16 = (W12.setCell ⟨(w.heap.size + 1 + 1 + 1), 4, none⟩ (.slice a1 k1 c1)) := ⟨_, rfl⟩
  rw [← hW16] at fP13 fQ13 fR13 fS13 fN13 sA13 C13 K13 ⊢
  have sz16 : (W12.setCell ⟨(w.heap.size + 1 + 1 + 1), 4, none⟩ (.slice a1 k1 c1)).heap.size ≤ W16.heap.size := by rw [hW16]; exact Nat.le_refl _
  clear hW16
  refine ((unhide hd) _ C13).mono ?_
  rintro e W17 ⟨sl, rfl, hbp, C17, J17⟩
  have sz17 := J17.size
  have fP17 : W17.heap[w.heap.size]? = some (.cells #[.pointer (some ⟨B, 0, none⟩)] 83 (0, 0)) := (J17.block _ (by omega) (by omega)).trans fP13
  have fQ17 : W17.heap[(w.heap.size + 1)]? = some (.cells #[.int .i64 t.ln, .int .i64 t.co] 28 (0, 0)) := (J17.block _ (by omega) (by omega)).trans fQ13
  have fR17 : W17.heap[(w.heap.size + 1 + 1)]? = some (.cells #[.int .i64 0, .string ⟨#[]⟩, .string ⟨#[]⟩, .string ⟨#[]⟩, .slice none 0 0, .slice none 0 0, .slice none 0 0, .int .i64 0, .int .i64 0] 57 (0, 0)) := (J17.block _ (by omega) (by omega)).trans fR13
  have fS17 : W17.heap[(w.heap.size + 1 + 1 + 1)]? = some (.cells #[.int .i64 1, .string ⟨#[]⟩, .string fn, .string ⟨#[]⟩, .slice a1 k1 c1, .slice none 0 0, .slice none 0 0, .int .i64 t.ln, .int .i64 t.co] 57 (0, 0)) := (J17.block _ (by omega) (by omega)).trans fS13
  have fN17 : W17.heap[W2.heap.size]? = some (.cells #[.string fn, .int .i64 x1, .int .i64 y1] 120 (0, 0)) := (J17.block _ (by omega) (by omega)).trans fN13
  have sA17 := sA13.kp J17 (by omega)
  have K17 := K13.trans J17
  clear fP13 fQ13 fR13 fS13 fN13 sA13 K13 C13 J17
  have loD := sz17
  obtain ⟨a2, k2, c2, rfl, sD17⟩ := brkD_form hbp
  clear hbp hd
  have cS19_5 : W17.cell? ⟨(w.heap.size + 1 + 1 + 1), 5, none⟩ = some (.slice none 0 0) := (dt.cell_cells fS17 5).trans rfl
  have zS19_5 : W17.frozen? ⟨(w.heap.size + 1 + 1 + 1), 5, none⟩ = false := dt.frozen_cells fS17 5
  have fP18 : (W17.setCell ⟨(w.heap.size + 1 + 1 + 1), 5, none⟩ (.slice a2 k2 c2)).heap[w.heap.size]? = some (.cells #[.pointer (some ⟨B, 0, none⟩)] 83 (0, 0)) := (Below.heap_setCell W17 _ _ _ (show w.heap.size ≠ (w.heap.size + 1 + 1 + 1) by omega)).trans fP17
  have fQ18 : (W17.setCell ⟨(w.heap.size + 1 + 1 + 1), 5, none⟩ (.slice a2 k2 c2)).heap[(w.heap.size + 1)]? = some (.cells #[.int .i64 t.ln, .int .i64 t.co] 28 (0, 0)) := (Below.heap_setCell W17 _ _ _ (show (w.heap.size + 1) ≠ (w.heap.size + 1 + 1 + 1) by omega)).trans fQ17
  have fR18 : (W17.setCell ⟨(w.heap.size + 1 + 1 + 1), 5, none⟩ (.slice a2 k2 c2)).heap[(w.heap.size + 1 + 1)]? = some (.cells #[.int .i64 0, .string ⟨#[]⟩, .string ⟨#[]⟩, .string ⟨#[]⟩, .slice none 0 0, .slice none 0 0, .slice none 0 0, .int .i64 0, .int .i64 0] 57 (0, 0)) := (Below.heap_setCell W17 _ _ _ (show (w.heap.size + 1 + 1) ≠ (w.heap.size + 1 + 1 + 1) by omega)).trans fR17
  have fS18 : (W17.setCell ⟨(w.heap.size + 1 + 1 + 1), 5, none⟩ (.slice a2 k2 c2)).heap[(w.heap.size + 1 + 1 + 1)]? = some (.cells #[.int .i64 1, .string ⟨#[]⟩, .string fn, .string ⟨#[]⟩, .slice a1 k1 c1, .slice a2 k2 c2, .slice none 0 0, .int .i64 t.ln, .int .i64 t.co] 57 (0, 0)) := (dt.heap_setCell_at fS17 5 _).trans rfl
  have fN18 : (W17.setCell ⟨(w.heap.size + 1 + 1 + 1), 5, none⟩ (.slice a2 k2 c2)).heap[W2.heap.size]? = some (.cells #[.string fn, .int .i64 x1, .int .i64 y1] 120 (0, 0)) := (Below.heap_setCell W17 _ _ _ (show W2.heap.size ≠ (w.heap.size + 1 + 1 + 1) by omega)).trans fN17
  have sz18 : W17.heap.size ≤ (W17.setCell ⟨(w.heap.size + 1 + 1 + 1), 5, none⟩ (.slice a2 k2 c2)).heap.size := Nat.le_of_eq (size_setC _ _ _ _).symm
  have C18 := C17.outC (b := (w.heap.size + 1 + 1 + 1)) (by omega) (by omega) 5 (.slice a2 k2 c2)
  have K18 := K17.setB (b := (w.heap.size + 1 + 1 + 1)) (by omega) 5 (.slice a2 k2 c2)
  have sA18 := sA17.outC (b := (w.heap.size + 1 + 1 + 1)) (by omega) 5 (.slice a2 k2 c2)
  have sD18 := sD17.outC (b := (w.heap.size + 1 + 1 + 1)) (by omega) 5 (.slice a2 k2 c2)
  have cP20_0 : (W17.setCell ⟨(w.heap.size + 1 + 1 + 1), 5, none⟩ (.slice a2 k2 c2)).cell? ⟨w.heap.size, 0, none⟩ = some (.pointer (some ⟨B, 0, none⟩)) := (dt.cell_cells fP18 0).trans rfl
  go_wp2_with fail
  obtain ⟨W21, hW21⟩ : ∃ W21, W21 = (W17.setCell ⟨(w.heap.size + 1 + 1 + 1), 5, none⟩ (.slice a2 k2 c2)) := ⟨_, rfl⟩
  rw [← hW21] at fP18 fQ18 fR18 fS18 fN18 sA18 sD18 C18 K18 ⊢
  have sz21 : (W17.setCell ⟨(w.heap.size + 1 + 1 + 1), 5, none⟩ (.slice a2 k2 c2)).heap.size ≤ W21.heap.size := by rw [hW21]; exact Nat.le_refl _
  clear hW21
  refine ((unhide hip) _ C18).mono ?_
  rintro e W22 ⟨rfl, bb22⟩
  have J22 : Kp B W21 W22 := Kp.of bb22
  have C22 := C18.below bb22
  have sz22 := J22.size
  have fP22 : W22.heap[w.heap.size]? = some (.cells #[.pointer (some ⟨B, 0, none⟩)] 83 (0, 0)) := (J22.block _ (by omega) (by omega)).trans fP18
  have fQ22 : W22.heap[(w.heap.size + 1)]? = some (.cells #[.int .i64 t.ln, .int .i64 t.co] 28 (0, 0)) := (J22.block _ (by omega) (by omega)).trans fQ18
  have fR22 : W22.heap[(w.heap.size + 1 + 1)]? = some (.cells #[.int .i64 0, .string ⟨#[]⟩, .string ⟨#[]⟩, .string ⟨#[]⟩, .slice none 0 0, .slice none 0 0, .slice none 0 0, .int .i64 0, .int .i64 0] 57 (0, 0)) := (J22.block _ (by omega) (by omega)).trans fR18
  have fS22 : W22.heap[(w.heap.size + 1 + 1 + 1)]? = some (.cells #[.int .i64 1, .string ⟨#[]⟩, .string fn, .string ⟨#[]⟩, .slice a1 k1 c1, .slice a2 k2 c2, .slice none 0 0, .int .i64 t.ln, .int .i64 t.co] 57 (0, 0)) := (J22.block _ (by omega) (by omega)).trans fS18
  have fN22 : W22.heap[W2.heap.size]? = some (.cells #[.string fn, .int .i64 x1, .int .i64 y1] 120 (0, 0)) := (J22.block _ (by omega) (by omega)).trans fN18
  have sA22 := sA18.kp J22 (by omega)
  have sD22 := sD18.kp J22 (by omega)
  have K22 := K18.trans J22
  clear fP18 fQ18 fR18 fS18 fN18 sA18 sD18 K18 C18 J22
  clear hip
  cases G
  ·have cS23_0 : W22.cell? ⟨(w.heap.size + 1 + 1 + 1), 0, none⟩ = some (.int .i64 1) := (dt.cell_cells fS22 0).trans rfl
   have cS23_1 : W22.cell? ⟨(w.heap.size + 1 + 1 + 1), 1, none⟩ = some (.string ⟨#[]⟩) := (dt.cell_cells fS22 1).trans rfl
   have cS23_2 : W22.cell? ⟨(w.heap.size + 1 + 1 + 1), 2, none⟩ = some (.string fn) := (dt.cell_cells fS22 2).trans rfl
   have cS23_3 : W22.cell? ⟨(w.heap.size + 1 + 1 + 1), 3, none⟩ = some (.string ⟨#[]⟩) := (dt.cell_cells fS22 3).trans rfl
   have cS23_4 : W22.cell? ⟨(w.heap.size + 1 + 1 + 1), 4, none⟩ = some (.slice a1 k1 c1) := (dt.cell_cells fS22 4).trans rfl
   have cS23_5 : W22.cell? ⟨(w.heap.size + 1 + 1 + 1), 5, none⟩ = some (.slice a2 k2 c2) := (dt.cell_cells fS22 5).trans rfl
   have cS23_6 : W22.cell? ⟨(w.heap.size + 1 + 1 + 1), 6, none⟩ = some (.slice none 0 0) := (dt.cell_cells fS22 6).trans rfl
   have cS23_7 : W22.cell? ⟨(w.heap.size + 1 + 1 + 1), 7, none⟩ = some (.int .i64 t.ln) := (dt.cell_cells fS22 7).trans rfl
   have cS23_8 : W22.cell? ⟨(w.heap.size + 1 + 1 + 1), 8, none⟩ = some (.int .i64 t.co) := (dt.cell_cells fS22 8).trans rfl
   have HT := hide (dt.there_cells fR22 (o := 0) (n := 9) (by decide))
   have HF := hide (And.intro C22 (And.intro K22 (And.intro sA22 sD22)))
   clear C22 K22 sA22 sD22
   go_wp2_with (first
    | refine wpList_store_mid (by rfl) 57 _ _ (by rfl) (w.heap.size + 1 + 1) 0 (selC 1 em fn em a1 k1 c1 a2 k2 c2 none 0 0 t.ln t.co).toArray (by rfl) (by rfl) (unhide HT) infoSel (dt.one_cells (cs := selC 1 em fn em a1 k1 c1 a2 k2 c2 none 0 0 t.ln t.co) (by rfl)) ?_)
   refine bodyPost_ret (rgn.result_row_tmp rfl _ _ (w.heap.size + 1 + 1) 0 (selC 1 em fn em a1 k1 c1 a2 k2 c2 none 0 0 t.ln t.co) _ rfl (World.rangeAt_setCells_same _ _ _ _ (unhide HT)) Tryz.underlying57 rfl infoSel) rfl ?_
   obtain ⟨hC, hK, hA, hD⟩ := unhide HF
   have hv := (unhide HV).2 (by first | rfl | trivial)
   have hso := unhide HSO
   rw [hv] at hso ⊢
   cases r with
   | none =>
    exact ⟨_, [], rfl, ⟨⟨_, _, _, _, _, _, _, _, _, _, _, _, _, _, _, rfl⟩, fun d e => by cases e⟩, hC.out (by omega) (by omega) _ _, hK.out (by omega) _ _⟩
   | some ds =>
    obtain ⟨F2, hD⟩ := hD ds rfl
    have hA2 := hA.out (b := w.heap.size + 1 + 1) (.inl (by omega)) 0 (selC 1 em fn em a1 k1 c1 a2 k2 c2 none 0 0 t.ln t.co)
    have hD2 := hD.out (b := w.heap.size + 1 + 1) (.inl (by omega)) 0 (selC 1 em fn em a1 k1 c1 a2 k2 c2 none 0 0 t.ln t.co)
    have hz := hD2.hi
    obtain ⟨F', p1, p2, p3⟩ := sel_ow hA2 hD2 (Sh.nil (hi := 0) (Nat.zero_le _)) (by omega) (Nat.le_refl _) (by omega) 1 em fn em t.ln t.co w.heap.size (by omega) (by omega) (by omega)
    exact ⟨_, F', rfl, ⟨⟨_, _, _, _, _, _, _, _, _, _, _, _, _, _, _, rfl⟩, fun d e => by obtain rfl := Option.some.inj e; exact ⟨p1, p2, p3⟩⟩, hC.out (by omega) (by omega) _ _, hK.out (by omega) _ _⟩
  ·have cP23_0 : W22.cell? ⟨w.heap.size, 0, none⟩ = some (.pointer (some ⟨B, 0, none⟩)) := (dt.cell_cells fP22 0).trans rfl
   go_wp2_with fail
   refine ((unhide hss) (by first | rfl | trivial) _ C22).mono ?_
   rintro e W24 ⟨sl, rfl, hbp, C24, J24⟩
   have sz24 := J24.size
   have fP24 : W24.heap[w.heap.size]? = some (.cells #[.pointer (some ⟨B, 0, none⟩)] 83 (0, 0)) := (J24.block _ (by omega) (by omega)).trans fP22
   have fQ24 : W24.heap[(w.heap.size + 1)]? = some (.cells #[.int .i64 t.ln, .int .i64 t.co] 28 (0, 0)) := (J24.block _ (by omega) (by omega)).trans fQ22
   have fR24 : W24.heap[(w.heap.size + 1 + 1)]? = some (.cells #[.int .i64 0, .string ⟨#[]⟩, .string ⟨#[]⟩, .string ⟨#[]⟩, .slice none 0 0, .slice none 0 0, .slice none 0 0, .int .i64 0, .int .i64 0] 57 (0, 0)) := (J24.block _ (by omega) (by omega)).trans fR22
   have fS24 : W24.heap[(w.heap.size + 1 + 1 + 1)]? = some (.cells #[.int .i64 1, .string ⟨#[]⟩, .string fn, .string ⟨#[]⟩, .slice a1 k1 c1, .slice a2 k2 c2, .slice none 0 0, .int .i64 t.ln, .int .i64 t.co] 57 (0, 0)) := (J24.block _ (by omega) (by omega)).trans fS22
   have fN24 : W24.heap[W2.heap.size]? = some (.cells #[.string fn, .int .i64 x1, .int .i64 y1] 120 (0, 0)) := (J24.block _ (by omega) (by omega)).trans fN22
   have sA24 := sA22.kp J24 (by omega)
   have sD24 := sD22.kp J24 (by omega)
   have K24 := K22.trans J24
   clear fP22 fQ22 fR22 fS22 fN22 sA22 sD22 K22 C22 J24
   have loE := sz24
   obtain ⟨a3, k3, c3, F3, rfl, sE24⟩ := brkS_form hbp
   clear hbp hss
   have cS26_6 : W24.cell? ⟨(w.heap.size + 1 + 1 + 1), 6, none⟩ = some (.slice none 0 0) := (dt.cell_cells fS24 6).trans rfl
   have zS26_6 : W24.frozen? ⟨(w.heap.size + 1 + 1 + 1), 6, none⟩ = false := dt.frozen_cells fS24 6
   have fP25 : (W24.setCell ⟨(w.heap.size + 1 + 1 + 1), 6, none⟩ (.slice a3 k3 c3)).heap[w.heap.size]? = some (.cells #[.pointer (some ⟨B, 0, none⟩)] 83 (0, 0)) := (Below.heap_setCell W24 _ _ _ (show w.heap.size ≠ (w.heap.size + 1 + 1 + 1) by omega)).trans fP24
   have fQ25 : (W24.setCell ⟨(w.heap.size + 1 + 1 + 1), 6, none⟩ (.slice a3 k3 c3)).heap[(w.heap.size + 1)]? = some (.cells #[.int .i64 t.ln, .int .i64 t.co] 28 (0, 0)) := (Below.heap_setCell W24 _ _ _ (show (w.heap.size + 1) ≠ (w.heap.size + 1 + 1 + 1) by omega)).trans fQ24
   have fR25 : (W24.setCell ⟨(w.heap.size + 1 + 1 + 1), 6, none⟩ (.slice a3 k3 c3)).heap[(w.heap.size + 1 + 1)]? = some (.cells #[.int .i64 0, .string ⟨#[]⟩, .string ⟨#[]⟩, .string ⟨#[]⟩, .slice none 0 0, .slice none 0 0, .slice none 0 0, .int .i64 0, .int .i64 0] 57 (0, 0)) := (Below.heap_setCell W24 _ _ _ (show (w.heap.size + 1 + 1) ≠ (w.heap.size + 1 + 1 + 1) by omega)).trans fR24
   have fS25 : (W24.setCell ⟨(w.heap.size + 1 + 1 + 1), 6, none⟩ (.slice a3 k3 c3)).heap[(w.heap.size + 1 + 1 + 1)]? = some (.cells #[.int .i64 1, .string ⟨#[]⟩, .string fn, .string ⟨#[]⟩, .slice a1 k1 c1, .slice a2 k2 c2, .slice a3 k3 c3, .int .i64 t.ln, .int .i64 t.co] 57 (0, 0)) := (dt.heap_setCell_at fS24 6 _).trans rfl
   have fN25 : (W24.setCell ⟨(w.heap.size + 1 + 1 + 1), 6, none⟩ (.slice a3 k3 c3)).heap[W2.heap.size]? = some (.cells #[.string fn, .int .i64 x1, .int .i64 y1] 120 (0, 0)) := (Below.heap_setCell W24 _ _ _ (show W2.heap.size ≠ (w.heap.size + 1 + 1 + 1) by omega)).trans fN24
   have sz25 : W24.heap.size ≤ (W24.setCell ⟨(w.heap.size + 1 + 1 + 1), 6, none⟩ (.slice a3 k3 c3)).heap.size := Nat.le_of_eq (size_setC _ _ _ _).symm
   have C25 := C24.outC (b := (w.heap.size + 1 + 1 + 1)) (by omega) (by omega) 6 (.slice a3 k3 c3)
   have K25 := K24.setB (b := (w.heap.size + 1 + 1 + 1)) (by omega) 6 (.slice a3 k3 c3)
   have sA25 := sA24.outC (b := (w.heap.size + 1 + 1 + 1)) (by omega) 6 (.slice a3 k3 c3)
   have sD25 := sD24.outC (b := (w.heap.size + 1 + 1 + 1)) (by omega) 6 (.slice a3 k3 c3)
   have sE25 := sE24.outC (b := (w.heap.size + 1 + 1 + 1)) (by omega) 6 (.slice a3 k3 c3)
   have cS27_0 : (W24.setCell ⟨(w.heap.size + 1 + 1 + 1), 6, none⟩ (.slice a3 k3 c3)).cell? ⟨(w.heap.size + 1 + 1 + 1), 0, none⟩ = some (.int .i64 1) := (dt.cell_cells fS25 0).trans rfl
   have cS27_1 : (W24.setCell ⟨(w.heap.size + 1 + 1 + 1), 6, none⟩ (.slice a3 k3 c3)).cell? ⟨(w.heap.size + 1 + 1 + 1), 1, none⟩ = some (.string ⟨#[]⟩) := (dt.cell_cells fS25 1).trans rfl
   have cS27_2 : (W24.setCell ⟨(w.heap.size + 1 + 1 + 1), 6, none⟩ (.slice a3 k3 c3)).cell? ⟨(w.heap.size + 1 + 1 + 1), 2, none⟩ = some (.string fn) := (dt.cell_cells fS25 2).trans rfl
   have cS27_3 : (W24.setCell ⟨(w.heap.size + 1 + 1 + 1), 6, none⟩ (.slice a3 k3 c3)).cell? ⟨(w.heap.size + 1 + 1 + 1), 3, none⟩ = some (.string ⟨#[]⟩) := (dt.cell_cells fS25 3).trans rfl
   have cS27_4 : (W24.setCell ⟨(w.heap.size + 1 + 1 + 1), 6, none⟩ (.slice a3 k3 c3)).cell? ⟨(w.heap.size + 1 + 1 + 1), 4, none⟩ = some (.slice a1 k1 c1) := (dt.cell_cells fS25 4).trans rfl
   have cS27_5 : (W24.setCell ⟨(w.heap.size + 1 + 1 + 1), 6, none⟩ (.slice a3 k3 c3)).cell? ⟨(w.heap.size + 1 + 1 + 1), 5, none⟩ = some (.slice a2 k2 c2) := (dt.cell_cells fS25 5).trans rfl
   have cS27_6 : (W24.setCell ⟨(w.heap.size + 1 + 1 + 1), 6, none⟩ (.slice a3 k3 c3)).cell? ⟨(w.heap.size + 1 + 1 + 1), 6, none⟩ = some (.slice a3 k3 c3) := (dt.cell_cells fS25 6).trans rfl
   have cS27_7 : (W24.setCell ⟨(w.heap.size + 1 + 1 + 1), 6, none⟩ (.slice a3 k3 c3)).cell? ⟨(w.heap.size + 1 + 1 + 1), 7, none⟩ = some (.int .i64 t.ln) := (dt.cell_cells fS25 7).trans rfl
   have cS27_8 : (W24.setCell ⟨(w.heap.size + 1 + 1 + 1), 6, none⟩ (.slice a3 k3 c3)).cell? ⟨(w.heap.size + 1 + 1 + 1), 8, none⟩ = some (.int .i64 t.co) := (dt.cell_cells fS25 8).trans rfl
   have HT := hide (dt.there_cells fR25 (o := 0) (n := 9) (by decide))
   have HF := hide (And.intro C25 (And.intro K25 (And.intro sA25 (And.intro sD25 sE25))))
   clear C25 K25 sA25 sD25 sE25
   go_wp2_with (first
    | refine wpList_store_mid (by rfl) 57 _ _ (by rfl) (w.heap.size + 1 + 1) 0 (selC 1 em fn em a1 k1 c1 a2 k2 c2 a3 k3 c3 t.ln t.co).toArray (by rfl) (by rfl) (unhide HT) infoSel (dt.one_cells (cs := selC 1 em fn em a1 k1 c1 a2 k2 c2 a3 k3 c3 t.ln t.co) (by rfl)) ?_)
   refine bodyPost_ret (rgn.result_row_tmp rfl _ _ (w.heap.size + 1 + 1) 0 (selC 1 em fn em a1 k1 c1 a2 k2 c2 a3 k3 c3 t.ln t.co) _ rfl (World.rangeAt_setCells_same _ _ _ _ (unhide HT)) Tryz.underlying57 rfl infoSel) rfl ?_
   obtain ⟨hC, hK, hA, hD, hE⟩ := unhide HF
   have hv := (unhide HV).1 (by first | rfl | trivial)
   have hso := unhide HSO
   rw [hv] at hso ⊢
   cases q with
   | none =>
    exact ⟨_, [], rfl, ⟨⟨_, _, _, _, _, _, _, _, _, _, _, _, _, _, _, rfl⟩, fun d e => by cases e⟩, hC.out (by omega) (by omega) _ _, hK.out (by omega) _ _⟩
   | some ss =>
    obtain ⟨l, rfl⟩ := hso rfl
    obtain ⟨F2, hD⟩ := hD l rfl
    have hA2 := hA.out (b := w.heap.size + 1 + 1) (.inl (by omega)) 0 (selC 1 em fn em a1 k1 c1 a2 k2 c2 a3 k3 c3 t.ln t.co)
    have hD2 := hD.out (b := w.heap.size + 1 + 1) (.inl (by omega)) 0 (selC 1 em fn em a1 k1 c1 a2 k2 c2 a3 k3 c3 t.ln t.co)
    have hE2 := hE.out (b := w.heap.size + 1 + 1) (.inl (by omega)) 0 (selC 1 em fn em a1 k1 c1 a2 k2 c2 a3 k3 c3 t.ln t.co)
    obtain ⟨F', p1, p2, p3⟩ := sel_ow hA2 hD2 hE2 (by omega) (by omega) (by omega) 1 em fn em t.ln t.co w.heap.size (by omega) (by omega) (by omega)
    exact ⟨_, F', rfl, ⟨⟨_, _, _, _, _, _, _, _, _, _, _, _, _, _, _, rfl⟩, fun d e => by obtain rfl := Option.some.inj e; exact ⟨p1, p2, p3⟩⟩, hC.out (by omega) (by omega) _ _, hK.out (by omega) _ _⟩
 ·obtain rfl : Y = Z := unhide hpc
  obtain rfl : M = N2 := unhide hfc
  obtain rfl : fn = o2 := unhide hfn
  obtain rfl : fa = o1 := unhide hfa
  clear hpc hfc hfn hfa
  have cN7_0 : W6.cell? ⟨W2.heap.size, 0, none⟩ = some (.string fa) := (dt.cell_cells fN6 0).trans rfl
  have cS9_1 : W6.cell? ⟨(w.heap.size + 1 + 1 + 1), 1, none⟩ = some (.string ⟨#[]⟩) := (dt.cell_cells fS6 1).trans rfl
  have zS9_1 : W6.frozen? ⟨(w.heap.size + 1 + 1 + 1), 1, none⟩ = false := dt.frozen_cells fS6 1
  have fP8 : (W6.setCell ⟨(w.heap.size + 1 + 1 + 1), 1, none⟩ (.string fa)).heap[w.heap.size]? = some (.cells #[.pointer (some ⟨B, 0, none⟩)] 83 (0, 0)) := (Below.heap_setCell W6 _ _ _ (show w.heap.size ≠ (w.heap.size + 1 + 1 + 1) by omega)).trans fP6
  have fQ8 : (W6.setCell ⟨(w.heap.size + 1 + 1 + 1), 1, none⟩ (.string fa)).heap[(w.heap.size + 1)]? = some (.cells #[.int .i64 t.ln, .int .i64 t.co] 28 (0, 0)) := (Below.heap_setCell W6 _ _ _ (show (w.heap.size + 1) ≠ (w.heap.size + 1 + 1 + 1) by omega)).trans fQ6
  have fR8 : (W6.setCell ⟨(w.heap.size + 1 + 1 + 1), 1, none⟩ (.string fa)).heap[(w.heap.size + 1 + 1)]? = some (.cells #[.int .i64 0, .string ⟨#[]⟩, .string ⟨#[]⟩, .string ⟨#[]⟩, .slice none 0 0, .slice none 0 0, .slice none 0 0, .int .i64 0, .int .i64 0] 57 (0, 0)) := (Below.heap_setCell W6 _ _ _ (show (w.heap.size + 1 + 1) ≠ (w.heap.size + 1 + 1 + 1) by omega)).trans fR6
  have fS8 : (W6.setCell ⟨(w.heap.size + 1 + 1 + 1), 1, none⟩ (.string fa)).heap[(w.heap.size + 1 + 1 + 1)]? = some (.cells #[.int .i64 1, .string fa, .string ⟨#[]⟩, .string ⟨#[]⟩, .slice none 0 0, .slice none 0 0, .slice none 0 0, .int .i64 t.ln, .int .i64 t.co] 57 (0, 0)) := (dt.heap_setCell_at fS6 1 _).trans rfl
  have fN8 : (W6.setCell ⟨(w.heap.size + 1 + 1 + 1), 1, none⟩ (.string fa)).heap[W2.heap.size]? = some (.cells #[.string fa, .int .i64 x1, .int .i64 y1] 120 (0, 0)) := (Below.heap_setCell W6 _ _ _ (show W2.heap.size ≠ (w.heap.size + 1 + 1 + 1) by omega)).trans fN6
  have sz8 : W6.heap.size ≤ (W6.setCell ⟨(w.heap.size + 1 + 1 + 1), 1, none⟩ (.string fa)).heap.size := Nat.le_of_eq (size_setC _ _ _ _).symm
  have C8 := C6.outC (b := (w.heap.size + 1 + 1 + 1)) (by omega) (by omega) 1 (.string fa)
  have K8 := K6.setB (b := (w.heap.size + 1 + 1 + 1)) (by omega) 1 (.string fa)
  have cP10_0 : (W6.setCell ⟨(w.heap.size + 1 + 1 + 1), 1, none⟩ (.string fa)).cell? ⟨w.heap.size, 0, none⟩ = some (.pointer (some ⟨B, 0, none⟩)) := (dt.cell_cells fP8 0).trans rfl
  go_wp2_with fail
  obtain ⟨W11, hW11⟩ : ∃ W11, W11 = (W6.setCell ⟨(w.heap.size + 1 + 1 + 1), 1, none⟩ (.string fa)) := ⟨_, rfl⟩
  rw [← hW11] at fP8 fQ8 fR8 fS8 fN8 C8 K8 ⊢
  have sz11 : (W6.setCell ⟨(w.heap.size + 1 + 1 + 1), 1, none⟩ (.string fa)).heap.size ≤ W11.heap.size := by rw [hW11]; exact Nat.le_refl _
  clear hW11
  refine ((unhide hn2) _ C8).mono ?_
  rintro e W12 ⟨rfl, C12, J12⟩
  have sz12 := J12.size
  have fP12 : W12.heap[w.heap.size]? = some (.cells #[.pointer (some ⟨B, 0, none⟩)] 83 (0, 0)) := (J12.block _ (by omega) (by omega)).trans fP8
  have fQ12 : W12.heap[(w.heap.size + 1)]? = some (.cells #[.int .i64 t.ln, .int .i64 t.co] 28 (0, 0)) := (J12.block _ (by omega) (by omega)).trans fQ8
  have fR12 : W12.heap[(w.heap.size + 1 + 1)]? = some (.cells #[.int .i64 0, .string ⟨#[]⟩, .string ⟨#[]⟩, .string ⟨#[]⟩, .slice none 0 0, .slice none 0 0, .slice none 0 0, .int .i64 0, .int .i64 0] 57 (0, 0)) := (J12.block _ (by omega) (by omega)).trans fR8
  have fS12 : W12.heap[(w.heap.size + 1 + 1 + 1)]? = some (.cells #[.int .i64 1, .string fa, .string ⟨#[]⟩, .string ⟨#[]⟩, .slice none 0 0, .slice none 0 0, .slice none 0 0, .int .i64 t.ln, .int .i64 t.co] 57 (0, 0)) := (J12.block _ (by omega) (by omega)).trans fS8
  have fN12 : W12.heap[W2.heap.size]? = some (.cells #[.string fa, .int .i64 x1, .int .i64 y1] 120 (0, 0)) := (J12.block _ (by omega) (by omega)).trans fN8
  have K12 := K8.trans J12
  clear fP8 fQ8 fR8 fS8 fN8 K8 C8 J12
  clear hn2
  have HT13 := hide (dt.there_cells fN12 (o := 0) (n := 3) (by first | decide | simp))
  have fP13 : (W12.setCells W2.heap.size 0 [.string fn, .int .i64 x2, .int .i64 y2]).heap[w.heap.size]? = some (.cells #[.pointer (some ⟨B, 0, none⟩)] 83 (0, 0)) := (dt.heap_setCells W2.heap.size _ (show w.heap.size ≠ W2.heap.size by omega) _ 0 W12).trans fP12
  have fQ13 : (W12.setCells W2.heap.size 0 [.string fn, .int .i64 x2, .int .i64 y2]).heap[(w.heap.size + 1)]? = some (.cells #[.int .i64 t.ln, .int .i64 t.co] 28 (0, 0)) := (dt.heap_setCells W2.heap.size _ (show (w.heap.size + 1) ≠ W2.heap.size by omega) _ 0 W12).trans fQ12
  have fR13 : (W12.setCells W2.heap.size 0 [.string fn, .int .i64 x2, .int .i64 y2]).heap[(w.heap.size + 1 + 1)]? = some (.cells #[.int .i64 0, .string ⟨#[]⟩, .string ⟨#[]⟩, .string ⟨#[]⟩, .slice none 0 0, .slice none 0 0, .slice none 0 0, .int .i64 0, .int .i64 0] 57 (0, 0)) := (dt.heap_setCells W2.heap.size _ (show (w.heap.size + 1 + 1) ≠ W2.heap.size by omega) _ 0 W12).trans fR12
  have fS13 : (W12.setCells W2.heap.size 0 [.string fn, .int .i64 x2, .int .i64 y2]).heap[(w.heap.size + 1 + 1 + 1)]? = some (.cells #[.int .i64 1, .string fa, .string ⟨#[]⟩, .string ⟨#[]⟩, .slice none 0 0, .slice none 0 0, .slice none 0 0, .int .i64 t.ln, .int .i64 t.co] 57 (0, 0)) := (dt.heap_setCells W2.heap.size _ (show (w.heap.size + 1 + 1 + 1) ≠ W2.heap.size by omega) _ 0 W12).trans fS12
  have fN13 : (W12.setCells W2.heap.size 0 [.string fn, .int .i64 x2, .int .i64 y2]).heap[W2.heap.size]? = some (.cells #[.string fn, .int .i64 x2, .int .i64 y2] 120 (0, 0)) := (dt.setCells_at [.string fn, .int .i64 x2, .int .i64 y2] 0 W12 _ fN12).trans rfl
  have sz13 : W12.heap.size ≤ (W12.setCells W2.heap.size 0 [.string fn, .int .i64 x2, .int .i64 y2]).heap.size := Nat.le_of_eq (dt.size_setCells _ _ _ _).symm
  have C13 := C12.out (b := W2.heap.size) (by omega) (by omega) 0 [.string fn, .int .i64 x2, .int .i64 y2]
  have K13 := K12.out (b := W2.heap.size) (by omega) 0 [.string fn, .int .i64 x2, .int .i64 y2]
  have cN14_0 : (W12.setCells W2.heap.size 0 [.string fn, .int .i64 x2, .int .i64 y2]).cell? ⟨W2.heap.size, 0, none⟩ = some (.string fn) := (dt.cell_cells fN13 0).trans rfl
  have cS16_2 : (W12.setCells W2.heap.size 0 [.string fn, .int .i64 x2, .int .i64 y2]).cell? ⟨(w.heap.size + 1 + 1 + 1), 2, none⟩ = some (.string ⟨#[]⟩) := (dt.cell_cells fS13 2).trans rfl
  have zS16_2 : (W12.setCells W2.heap.size 0 [.string fn, .int .i64 x2, .int .i64 y2]).frozen? ⟨(w.heap.size + 1 + 1 + 1), 2, none⟩ = false := dt.frozen_cells fS13 2
  have fP15 : ((W12.setCells W2.heap.size 0 [.string fn, .int .i64 x2, .int .i64 y2]).setCell ⟨(w.heap.size + 1 + 1 + 1), 2, none⟩ (.string fn)).heap[w.heap.size]? = some (.cells #[.pointer (some ⟨B, 0, none⟩)] 83 (0, 0)) := (Below.heap_setCell (W12.setCells W2.heap.size 0 [.string fn, .int .i64 x2, .int .i64 y2]) _ _ _ (show w.heap.size ≠ (w.heap.size + 1 + 1 + 1) by omega)).trans fP13
  have fQ15 : ((W12.setCells W2.heap.size 0 [.string fn, .int .i64 x2, .int .i64 y2]).setCell ⟨(w.heap.size + 1 + 1 + 1), 2, none⟩ (.string fn)).heap[(w.heap.size + 1)]? = some (.cells #[.int .i64 t.ln, .int .i64 t.co] 28 (0, 0)) := (Below.heap_setCell (W12.setCells W2.heap.size 0 [.string fn, .int .i64 x2, .int .i64 y2]) _ _ _ (show (w.heap.size + 1) ≠ (w.heap.size + 1 + 1 + 1) by omega)).trans fQ13
  have fR15 : ((W12.setCells W2.heap.size 0 [.string fn, .int .i64 x2, .int .i64 y2]).setCell ⟨(w.heap.size + 1 + 1 + 1), 2, none⟩ (.string fn)).heap[(w.heap.size + 1 + 1)]? = some (.cells #[.int .i64 0, .string ⟨#[]⟩, .string ⟨#[]⟩, .string ⟨#[]⟩, .slice none 0 0, .slice none 0 0, .slice none 0 0, .int .i64 0, .int .i64 0] 57 (0, 0)) := (Below.heap_setCell (W12.setCells W2.heap.size 0 [.string fn, .int .i64 x2, .int .i64 y2]) _ _ _ (show (w.heap.size + 1 + 1) ≠ (w.heap.size + 1 + 1 + 1) by omega)).trans fR13
  have fS15 : ((W12.setCells W2.heap.size 0 [.string fn, .int .i64 x2, .int .i64 y2]).setCell ⟨(w.heap.size + 1 + 1 + 1), 2, none⟩ (.string fn)).heap[(w.heap.size + 1 + 1 + 1)]? = some (.cells #[.int .i64 1, .string fa, .string fn, .string ⟨#[]⟩, .slice none 0 0, .slice none 0 0, .slice none 0 0, .int .i64 t.ln, .int .i64 t.co] 57 (0, 0)) := (dt.heap_setCell_at fS13 2 _).trans rfl
  have fN15 : ((W12.setCells W2.heap.size 0 [.string fn, .int .i64 x2, .int .i64 y2]).setCell ⟨(w.heap.size + 1 + 1 + 1), 2, none⟩ (.string fn)).heap[W2.heap.size]? = some (.cells #[.string fn, .int .i64 x2, .int .i64 y2] 120 (0, 0)) := (Below.heap_setCell (W12.setCells W2.heap.size 0 [.string fn, .int .i64 x2, .int .i64 y2]) _ _ _ (show W2.heap.size ≠ (w.heap.size + 1 + 1 + 1) by omega)).trans fN13
  have sz15 : (W12.setCells W2.heap.size 0 [.string fn, .int .i64 x2, .int .i64 y2]).heap.size ≤ ((W12.setCells W2.heap.size 0 [.string fn, .int .i64 x2, .int .i64 y2]).setCell ⟨(w.heap.size + 1 + 1 + 1), 2, none⟩ (.string fn)).heap.size := Nat.le_of_eq (size_setC _ _ _ _).symm
  have C15 := C13.outC (b := (w.heap.size + 1 + 1 + 1)) (by omega) (by omega) 2 (.string fn)
  have K15 := K13.setB (b := (w.heap.size + 1 + 1 + 1)) (by omega) 2 (.string fn)
  have cP17_0 : ((W12.setCells W2.heap.size 0 [.string fn, .int .i64 x2, .int .i64 y2]).setCell ⟨(w.heap.size + 1 + 1 + 1), 2, none⟩ (.string fn)).cell? ⟨w.heap.size, 0, none⟩ = some (.pointer (some ⟨B, 0, none⟩)) := (dt.cell_cells fP15 0).trans rfl
  go_wp2_with (first
   | refine wpList_store_mid (by rfl) 120 _ _ (by rfl) W2.heap.size 0 #[.string fn, .int .i64 x2, .int .i64 y2] (by rfl) (by rfl) (unhide HT13) infoNm (dt.one_cells (cs := [.string fn, .int .i64 x2, .int .i64 y2]) (by rfl)) ?_)
  obtain ⟨W18, hW18⟩ : ∃ W18, W18 = ((W12.setCells W2.heap.size 0 [.string fn, .int .i64 x2, .int .i64 y2]).setCell ⟨(w.heap.size + 1 + 1 + 1), 2, none⟩ (.string fn)) := ⟨_, rfl⟩
  rw [← hW18] at fP15 fQ15 fR15 fS15 fN15 C15 K15 ⊢
  have sz18 : ((W12.setCells W2.heap.size 0 [.string fn, .int .i64 x2, .int .i64 y2]).setCell ⟨(w.heap.size + 1 + 1 + 1), 2, none⟩ (.string fn)).heap.size ≤ W18.heap.size := by rw [hW18]; exact Nat.le_refl _
  clear hW18
  refine ((unhide ha) _ C15).mono ?_
  rintro e W19 ⟨sl, rfl, hbp, C19, J19⟩
  have sz19 := J19.size
  have fP19 : W19.heap[w.heap.size]? = some (.cells #[.pointer (some ⟨B, 0, none⟩)] 83 (0, 0)) := (J19.block _ (by omega) (by omega)).trans fP15
  have fQ19 : W19.heap[(w.heap.size + 1)]? = some (.cells #[.int .i64 t.ln, .int .i64 t.co] 28 (0, 0)) := (J19.block _ (by omega) (by omega)).trans fQ15
  have fR19 : W19.heap[(w.heap.size + 1 + 1)]? = some (.cells #[.int .i64 0, .string ⟨#[]⟩, .string ⟨#[]⟩, .string ⟨#[]⟩, .slice none 0 0, .slice none 0 0, .slice none 0 0, .int .i64 0, .int .i64 0] 57 (0, 0)) := (J19.block _ (by omega) (by omega)).trans fR15
  have fS19 : W19.heap[(w.heap.size + 1 + 1 + 1)]? = some (.cells #[.int .i64 1, .string fa, .string fn, .string ⟨#[]⟩, .slice none 0 0, .slice none 0 0, .slice none 0 0, .int .i64 t.ln, .int .i64 t.co] 57 (0, 0)) := (J19.block _ (by omega) (by omega)).trans fS15
  have fN19 : W19.heap[W2.heap.size]? = some (.cells #[.string fn, .int .i64 x2, .int .i64 y2] 120 (0, 0)) := (J19.block _ (by omega) (by omega)).trans fN15
  have K19 := K15.trans J19
  clear fP15 fQ15 fR15 fS15 fN15 K15 C15 J19
  have loA := sz19
  obtain ⟨a1, k1, c1, F1, rfl, sA19⟩ := brkA_form loA hbp
  clear hbp ha
  have cS21_4 : W19.cell? ⟨(w.heap.size + 1 + 1 + 1), 4, none⟩ = some (.slice none 0 0) := (dt.cell_cells fS19 4).trans rfl
  have zS21_4 : W19.frozen? ⟨(w.heap.size + 1 + 1 + 1), 4, none⟩ = false := dt.frozen_cells fS19 4
  have fP20 : (W19.setCell ⟨(w.heap.size + 1 + 1 + 1), 4, none⟩ (.slice a1 k1 c1)).heap[w.heap.size]? = some (.cells #[.pointer (some ⟨B, 0, none⟩)] 83 (0, 0)) := (Below.heap_setCell W19 _ _ _ (show w.heap.size ≠ (w.heap.size + 1 + 1 + 1) by omega)).trans fP19
  have fQ20 : (W19.setCell ⟨(w.heap.size + 1 + 1 + 1), 4, none⟩ (.slice a1 k1 c1)).heap[(w.heap.size + 1)]? = some (.cells #[.int .i64 t.ln, .int .i64 t.co] 28 (0, 0)) := (Below.heap_setCell W19 _ _ _ (show (w.heap.size + 1) ≠ (w.heap.size + 1 + 1 + 1) by omega)).trans fQ19
  have fR20 : (W19.setCell ⟨(w.heap.size + 1 + 1 + 1), 4, none⟩ (.slice a1 k1 c1)).heap[(w.heap.size + 1 + 1)]? = some (.cells #[.int .i64 0, .string ⟨#[]⟩, .string ⟨#[]⟩, .string ⟨#[]⟩, .slice none 0 0, .slice none 0 0, .slice none 0 0, .int .i64 0, .int .i64 0] 57 (0, 0)) := (Below.heap_setCell W19 _ _ _ (show (w.heap.size + 1 + 1) ≠ (w.heap.size + 1 + 1 + 1) by omega)).trans fR19
  have fS20 : (W19.setCell ⟨(w.heap.size + 1 + 1 + 1), 4, none⟩ (.slice a1 k1 c1)).heap[(w.heap.size + 1 + 1 + 1)]? = some (.cells #[.int .i64 1, .string fa, .string fn, .string ⟨#[]⟩, .slice a1 k1 c1, .slice none 0 0, .slice none 0 0, .int .i64 t.ln, .int .i64 t.co] 57 (0, 0)) := (dt.heap_setCell_at fS19 4 _).trans rfl
  have fN20 : (W19.setCell ⟨(w.heap.size + 1 + 1 + 1), 4, none⟩ (.slice a1 k1 c1)).heap[W2.heap.size]? = some (.cells #[.string fn, .int .i64 x2, .int .i64 y2] 120 (0, 0)) := (Below.heap_setCell W19 _ _ _ (show W2.heap.size ≠ (w.heap.size + 1 + 1 + 1) by omega)).trans fN19
  have sz20 : W19.heap.size ≤ (W19.setCell ⟨(w.heap.size + 1 + 1 + 1), 4, none⟩ (.slice a1 k1 c1)).heap.size := Nat.le_of_eq (size_setC _ _ _ _).symm
  have C20 := C19.outC (b := (w.heap.size + 1 + 1 + 1)) (by omega) (by omega) 4 (.slice a1 k1 c1)
  have K20 := K19.setB (b := (w.heap.size + 1 + 1 + 1)) (by omega) 4 (.slice a1 k1 c1)
  have sA20 := sA19.outC (b := (w.heap.size + 1 + 1 + 1)) (by omega) 4 (.slice a1 k1 c1)
  have cP22_0 : (W19.setCell ⟨(w.heap.size + 1 + 1 + 1), 4, none⟩ (.slice a1 k1 c1)).cell? ⟨w.heap.size, 0, none⟩ = some (.pointer (some ⟨B, 0, none⟩)) := (dt.cell_cells fP20 0).trans rfl
  go_wp2_with fail
  obtain ⟨W23, hW23⟩ : ∃ W23, W23 = (W19.setCell ⟨(w.heap.size + 1 + 1 + 1), 4, none⟩ (.slice a1 k1 c1)) := ⟨_, rfl⟩
  rw [← hW23] at fP20 fQ20 fR20 fS20 fN20 sA20 C20 K20 ⊢
  have sz23 : (W19.setCell ⟨(w.heap.size + 1 + 1 + 1), 4, none⟩ (.slice a1 k1 c1)).heap.size ≤ W23.heap.size := by rw [hW23]; exact Nat.le_refl _
  clear hW23
  refine ((unhide hd) _ C20).mono ?_
  rintro e W24 ⟨sl, rfl, hbp, C24, J24⟩
  have sz24 := J24.size
  have fP24 : W24.heap[w.heap.size]? = some (.cells #[.pointer (some ⟨B, 0, none⟩)] 83 (0, 0)) := (J24.block _ (by omega) (by omega)).trans fP20
  have fQ24 : W24.heap[(w.heap.size + 1)]? = some (.cells #[.int .i64 t.ln, .int .i64 t.co] 28 (0, 0)) := (J24.block _ (by omega) (by omega)).trans fQ20
  have fR24 : W24.heap[(w.heap.size + 1 + 1)]? = some (.cells #[.int .i64 0, .string ⟨#[]⟩, .string ⟨#[]⟩, .string ⟨#[]⟩, .slice none 0 0, .slice none 0 0, .slice none 0 0, .int .i64 0, .int .i64 0] 57 (0, 0)) := (J24.block _ (by omega) (by omega)).trans fR20
  have fS24 : W24.heap[(w.heap.size + 1 + 1 + 1)]? = some (.cells #[.int .i64 1, .string fa, .string fn, .string ⟨#[]⟩, .slice a1 k1 c1, .slice none 0 0, .slice none 0 0, .int .i64 t.ln, .int .i64 t.co] 57 (0, 0)) := (J24.block _ (by omega) (by omega)).trans fS20
  have fN24 : W24.heap[W2.heap.size]? = some (.cells #[.string fn, .int .i64 x2, .int .i64 y2] 120 (0, 0)) := (J24.block _ (by omega) (by omega)).trans fN20
  have sA24 := sA20.kp J24 (by omega)
  have K24 := K20.trans J24
  clear fP20 fQ20 fR20 fS20 fN20 sA20 K20 C20 J24
  have loD := sz24
  obtain ⟨a2, k2, c2, rfl, sD24⟩ := brkD_form hbp
  clear hbp hd
  have cS26_5 : W24.cell? ⟨(w.heap.size + 1 + 1 + 1), 5, none⟩ = some (.slice none 0 0) := (dt.cell_cells fS24 5).trans rfl
  have zS26_5 : W24.frozen? ⟨(w.heap.size + 1 + 1 + 1), 5, none⟩ = false := dt.frozen_cells fS24 5
  have fP25 : (W24.setCell ⟨(w.heap.size + 1 + 1 + 1), 5, none⟩ (.slice a2 k2 c2)).heap[w.heap.size]? = some (.cells #[.pointer (some ⟨B, 0, none⟩)] 83 (0, 0)) := (Below.heap_setCell W24 _ _ _ (show w.heap.size ≠ (w.heap.size + 1 + 1 + 1) by omega)).trans fP24
  have fQ25 : (W24.setCell ⟨(w.heap.size + 1 + 1 + 1), 5, none⟩ (.slice a2 k2 c2)).heap[(w.heap.size + 1)]? = some (.cells #[.int .i64 t.ln, .int .i64 t.co] 28 (0, 0)) := (Below.heap_setCell W24 _ _ _ (show (w.heap.size + 1) ≠ (w.heap.size + 1 + 1 + 1) by omega)).trans fQ24
  have fR25 : (W24.setCell ⟨(w.heap.size + 1 + 1 + 1), 5, none⟩ (.slice a2 k2 c2)).heap[(w.heap.size + 1 + 1)]? = some (.cells #[.int .i64 0, .string ⟨#[]⟩, .string ⟨#[]⟩, .string ⟨#[]⟩, .slice none 0 0, .slice none 0 0, .slice none 0 0, .int .i64 0, .int .i64 0] 57 (0, 0)) := (Below.heap_setCell W24 _ _ _ (show (w.heap.size + 1 + 1) ≠ (w.heap.size + 1 + 1 + 1) by omega)).trans fR24
  have fS25 : (W24.setCell ⟨(w.heap.size + 1 + 1 + 1), 5, none⟩ (.slice a2 k2 c2)).heap[(w.heap.size + 1 + 1 + 1)]? = some (.cells #[.int .i64 1, .string fa, .string fn, .string ⟨#[]⟩, .slice a1 k1 c1, .slice a2 k2 c2, .slice none 0 0, .int .i64 t.ln, .int .i64 t.co] 57 (0, 0)) := (dt.heap_setCell_at fS24 5 _).trans rfl
  have fN25 : (W24.setCell ⟨(w.heap.size + 1 + 1 + 1), 5, none⟩ (.slice a2 k2 c2)).heap[W2.heap.size]? = some (.cells #[.string fn, .int .i64 x2, .int .i64 y2] 120 (0, 0)) := (Below.heap_setCell W24 _ _ _ (show W2.heap.size ≠ (w.heap.size + 1 + 1 + 1) by omega)).trans fN24
  have sz25 : W24.heap.size ≤ (W24.setCell ⟨(w.heap.size + 1 + 1 + 1), 5, none⟩ (.slice a2 k2 c2)).heap.size := Nat.le_of_eq (size_setC _ _ _ _).symm
  have C25 := C24.outC (b := (w.heap.size + 1 + 1 + 1)) (by omega) (by omega) 5 (.slice a2 k2 c2)
  have K25 := K24.setB (b := (w.heap.size + 1 + 1 + 1)) (by omega) 5 (.slice a2 k2 c2)
  have sA25 := sA24.outC (b := (w.heap.size + 1 + 1 + 1)) (by omega) 5 (.slice a2 k2 c2)
  have sD25 := sD24.outC (b := (w.heap.size + 1 + 1 + 1)) (by omega) 5 (.slice a2 k2 c2)
  have cP27_0 : (W24.setCell ⟨(w.heap.size + 1 + 1 + 1), 5, none⟩ (.slice a2 k2 c2)).cell? ⟨w.heap.size, 0, none⟩ = some (.pointer (some ⟨B, 0, none⟩)) := (dt.cell_cells fP25 0).trans rfl
  go_wp2_with fail
  obtain ⟨W28, hW28⟩ : ∃ W28, W28 = (W24.setCell ⟨(w.heap.size + 1 + 1 + 1), 5, none⟩ (.slice a2 k2 c2)) := ⟨_, rfl⟩
  rw [← hW28] at fP25 fQ25 fR25 fS25 fN25 sA25 sD25 C25 K25 ⊢
  have sz28 : (W24.setCell ⟨(w.heap.size + 1 + 1 + 1), 5, none⟩ (.slice a2 k2 c2)).heap.size ≤ W28.heap.size := by rw [hW28]; exact Nat.le_refl _
  clear hW28
  refine ((unhide hip) _ C25).mono ?_
  rintro e W29 ⟨rfl, bb29⟩
  have J29 : Kp B W28 W29 := Kp.of bb29
  have C29 := C25.below bb29
  have sz29 := J29.size
  have fP29 : W29.heap[w.heap.size]? = some (.cells #[.pointer (some ⟨B, 0, none⟩)] 83 (0, 0)) := (J29.block _ (by omega) (by omega)).trans fP25
  have fQ29 : W29.heap[(w.heap.size + 1)]? = some (.cells #[.int .i64 t.ln, .int .i64 t.co] 28 (0, 0)) := (J29.block _ (by omega) (by omega)).trans fQ25
  have fR29 : W29.heap[(w.heap.size + 1 + 1)]? = some (.cells #[.int .i64 0, .string ⟨#[]⟩, .string ⟨#[]⟩, .string ⟨#[]⟩, .slice none 0 0, .slice none 0 0, .slice none 0 0, .int .i64 0, .int .i64 0] 57 (0, 0)) := (J29.block _ (by omega) (by omega)).trans fR25
  have fS29 : W29.heap[(w.heap.size + 1 + 1 + 1)]? = some (.cells #[.int .i64 1, .string fa, .string fn, .string ⟨#[]⟩, .slice a1 k1 c1, .slice a2 k2 c2, .slice none 0 0, .int .i64 t.ln, .int .i64 t.co] 57 (0, 0)) := (J29.block _ (by omega) (by omega)).trans fS25
  have fN29 : W29.heap[W2.heap.size]? = some (.cells #[.string fn, .int .i64 x2, .int .i64 y2] 120 (0, 0)) := (J29.block _ (by omega) (by omega)).trans fN25
  have sA29 := sA25.kp J29 (by omega)
  have sD29 := sD25.kp J29 (by omega)
  have K29 := K25.trans J29
  clear fP25 fQ25 fR25 fS25 fN25 sA25 sD25 K25 C25 J29
  clear hip
  cases G
  ·have cS30_0 : W29.cell? ⟨(w.heap.size + 1 + 1 + 1), 0, none⟩ = some (.int .i64 1) := (dt.cell_cells fS29 0).trans rfl
   have cS30_1 : W29.cell? ⟨(w.heap.size + 1 + 1 + 1), 1, none⟩ = some (.string fa) := (dt.cell_cells fS29 1).trans rfl
   have cS30_2 : W29.cell? ⟨(w.heap.size + 1 + 1 + 1), 2, none⟩ = some (.string fn) := (dt.cell_cells fS29 2).trans rfl
   have cS30_3 : W29.cell? ⟨(w.heap.size + 1 + 1 + 1), 3, none⟩ = some (.string ⟨#[]⟩) := (dt.cell_cells fS29 3).trans rfl
   have cS30_4 : W29.cell? ⟨(w.heap.size + 1 + 1 + 1), 4, none⟩ = some (.slice a1 k1 c1) := (dt.cell_cells fS29 4).trans rfl
   have cS30_5 : W29.cell? ⟨(w.heap.size + 1 + 1 + 1), 5, none⟩ = some (.slice a2 k2 c2) := (dt.cell_cells fS29 5).trans rfl
   have cS30_6 : W29.cell? ⟨(w.heap.size + 1 + 1 + 1), 6, none⟩ = some (.slice none 0 0) := (dt.cell_cells fS29 6).trans rfl
   have cS30_7 : W29.cell? ⟨(w.heap.size + 1 + 1 + 1), 7, none⟩ = some (.int .i64 t.ln) := (dt.cell_cells fS29 7).trans rfl
   have cS30_8 : W29.cell? ⟨(w.heap.size + 1 + 1 + 1), 8, none⟩ = some (.int .i64 t.co) := (dt.cell_cells fS29 8).trans rfl
   have HT := hide (dt.there_cells fR29 (o := 0) (n := 9) (by decide))
   have HF := hide (And.intro C29 (And.intro K29 (And.intro sA29 sD29)))
   clear C29 K29 sA29 sD29
   go_wp2_with (first
    | refine wpList_store_mid (by rfl) 57 _ _ (by rfl) (w.heap.size + 1 + 1) 0 (selC 1 fa fn em a1 k1 c1 a2 k2 c2 none 0 0 t.ln t.co).toArray (by rfl) (by rfl) (unhide HT) infoSel (dt.one_cells (cs := selC 1 fa fn em a1 k1 c1 a2 k2 c2 none 0 0 t.ln t.co) (by rfl)) ?_)
   refine bodyPost_ret (rgn.result_row_tmp rfl _ _ (w.heap.size + 1 + 1) 0 (selC 1 fa fn em a1 k1 c1 a2 k2 c2 none 0 0 t.ln t.co) _ rfl (World.rangeAt_setCells_same _ _ _ _ (unhide HT)) Tryz.underlying57 rfl infoSel) rfl ?_
   obtain ⟨hC, hK, hA, hD⟩ := unhide HF
   have hv := (unhide HV).2 (by first | rfl | trivial)
   have hso := unhide HSO
   rw [hv] at hso ⊢
   cases r with
   | none =>
    exact ⟨_, [], rfl, ⟨⟨_, _, _, _, _, _, _, _, _, _, _, _, _, _, _, rfl⟩, fun d e => by cases e⟩, hC.out (by omega) (by omega) _ _, hK.out (by omega) _ _⟩
   | some ds =>
    obtain ⟨F2, hD⟩ := hD ds rfl
    have hA2 := hA.out (b := w.heap.size + 1 + 1) (.inl (by omega)) 0 (selC 1 fa fn em a1 k1 c1 a2 k2 c2 none 0 0 t.ln t.co)
    have hD2 := hD.out (b := w.heap.size + 1 + 1) (.inl (by omega)) 0 (selC 1 fa fn em a1 k1 c1 a2 k2 c2 none 0 0 t.ln t.co)
    have hz := hD2.hi
    obtain ⟨F', p1, p2, p3⟩ := sel_ow hA2 hD2 (Sh.nil (hi := 0) (Nat.zero_le _)) (by omega) (Nat.le_refl _) (by omega) 1 fa fn em t.ln t.co w.heap.size (by omega) (by omega) (by omega)
    exact ⟨_, F', rfl, ⟨⟨_, _, _, _, _, _, _, _, _, _, _, _, _, _, _, rfl⟩, fun d e => by obtain rfl := Option.some.inj e; exact ⟨p1, p2, p3⟩⟩, hC.out (by omega) (by omega) _ _, hK.out (by omega) _ _⟩
  ·have cP30_0 : W29.cell? ⟨w.heap.size, 0, none⟩ = some (.pointer (some ⟨B, 0, none⟩)) := (dt.cell_cells fP29 0).trans rfl
   go_wp2_with fail
   refine ((unhide hss) (by first | rfl | trivial) _ C29).mono ?_
   rintro e W31 ⟨sl, rfl, hbp, C31, J31⟩
   have sz31 := J31.size
   have fP31 : W31.heap[w.heap.size]? = some (.cells #[.pointer (some ⟨B, 0, none⟩)] 83 (0, 0)) := (J31.block _ (by omega) (by omega)).trans fP29
   have fQ31 : W31.heap[(w.heap.size + 1)]? = some (.cells #[.int .i64 t.ln, .int .i64 t.co] 28 (0, 0)) := (J31.block _ (by omega) (by omega)).trans fQ29
   have fR31 : W31.heap[(w.heap.size + 1 + 1)]? = some (.cells #[.int .i64 0, .string ⟨#[]⟩, .string ⟨#[]⟩, .string ⟨#[]⟩, .slice none 0 0, .slice none 0 0, .slice none 0 0, .int .i64 0, .int .i64 0] 57 (0, 0)) := (J31.block _ (by omega) (by omega)).trans fR29
   have fS31 : W31.heap[(w.heap.size + 1 + 1 + 1)]? = some (.cells #[.int .i64 1, .string fa, .string fn, .string ⟨#[]⟩, .slice a1 k1 c1, .slice a2 k2 c2, .slice none 0 0, .int .i64 t.ln, .int .i64 t.co] 57 (0, 0)) := (J31.block _ (by omega) (by omega)).trans fS29
   have fN31 : W31.heap[W2.heap.size]? = some (.cells #[.string fn, .int .i64 x2, .int .i64 y2] 120 (0, 0)) := (J31.block _ (by omega) (by omega)).trans fN29
   have sA31 := sA29.kp J31 (by omega)
   have sD31 := sD29.kp J31 (by omega)
   have K31 := K29.trans J31
   clear fP29 fQ29 fR29 fS29 fN29 sA29 sD29 K29 C29 J31
   have loE := sz31
   obtain ⟨a3, k3, c3, F3, rfl, sE31⟩ := brkS_form hbp
   clear hbp hss
   have cS33_6 : W31.cell? ⟨(w.heap.size + 1 + 1 + 1), 6, none⟩ = some (.slice none 0 0) := (dt.cell_cells fS31 6).trans rfl
   have zS33_6 : W31.frozen? ⟨(w.heap.size + 1 + 1 + 1), 6, none⟩ = false := dt.frozen_cells fS31 6
   have fP32 : (W31.setCell ⟨(w.heap.size + 1 + 1 + 1), 6, none⟩ (.slice a3 k3 c3)).heap[w.heap.size]? = some (.cells #[.pointer (some ⟨B, 0, none⟩)] 83 (0, 0)) := (Below.heap_setCell W31 _ _ _ (show w.heap.size ≠ (w.heap.size + 1 + 1 + 1) by omega)).trans fP31
   have fQ32 : (W31.setCell ⟨(w.heap.size + 1 + 1 + 1), 6, none⟩ (.slice a3 k3 c3)).heap[(w.heap.size + 1)]? = some (.cells #[.int .i64 t.ln, .int .i64 t.co] 28 (0, 0)) := (Below.heap_setCell W31 _ _ _ (show (w.heap.size + 1) ≠ (w.heap.size + 1 + 1 + 1) by omega)).trans fQ31
   have fR32 : (W31.setCell ⟨(w.heap.size + 1 + 1 + 1), 6, none⟩ (.slice a3 k3 c3)).heap[(w.heap.size + 1 + 1)]? = some (.cells #[.int .i64 0, .string ⟨#[]⟩, .string ⟨#[]⟩, .string ⟨#[]⟩, .slice none 0 0, .slice none 0 0, .slice none 0 0, .int .i64 0, .int .i64 0] 57 (0, 0)) := (Below.heap_setCell W31 _ _ _ (show (w.heap.size + 1 + 1) ≠ (w.heap.size + 1 + 1 + 1) by omega)).trans fR31
   have fS32 : (W31.setCell ⟨(w.heap.size + 1 + 1 + 1), 6, none⟩ (.slice a3 k3 c3)).heap[(w.heap.size + 1 + 1 + 1)]? = some (.cells #[.int .i64 1, .string fa, .string fn, .string ⟨#[]⟩, .slice a1 k1 c1, .slice a2 k2 c2, .slice a3 k3 c3, .int .i64 t.ln, .int .i64 t.co] 57 (0, 0)) := (dt.heap_setCell_at fS31 6 _).trans rfl
   have fN32 : (W31.setCell ⟨(w.heap.size + 1 + 1 + 1), 6, none⟩ (.slice a3 k3 c3)).heap[W2.heap.size]? = some (.cells #[.string fn, .int .i64 x2, .int .i64 y2] 120 (0, 0)) := (Below.heap_setCell W31 _ _ _ (show W2.heap.size ≠ (w.heap.size + 1 + 1 + 1) by omega)).trans fN31
   have sz32 : W31.heap.size ≤ (W31.setCell ⟨(w.heap.size + 1 + 1 + 1), 6, none⟩ (.slice a3 k3 c3)).heap.size := Nat.le_of_eq (size_setC _ _ _ _).symm
   have C32 := C31.outC (b := (w.heap.size + 1 + 1 + 1)) (by omega) (by omega) 6 (.slice a3 k3 c3)
   have K32 := K31.setB (b := (w.heap.size + 1 + 1 + 1)) (by omega) 6 (.slice a3 k3 c3)
   have sA32 := sA31.outC (b := (w.heap.size + 1 + 1 + 1)) (by omega) 6 (.slice a3 k3 c3)
   have sD32 := sD31.outC (b := (w.heap.size + 1 + 1 + 1)) (by omega) 6 (.slice a3 k3 c3)
   have sE32 := sE31.outC (b := (w.heap.size + 1 + 1 + 1)) (by omega) 6 (.slice a3 k3 c3)
   have cS34_0 : (W31.setCell ⟨(w.heap.size + 1 + 1 + 1), 6, none⟩ (.slice a3 k3 c3)).cell? ⟨(w.heap.size + 1 + 1 + 1), 0, none⟩ = some (.int .i64 1) := (dt.cell_cells fS32 0).trans rfl
   have cS34_1 : (W31.setCell ⟨(w.heap.size + 1 + 1 + 1), 6, none⟩ (.slice a3 k3 c3)).cell? ⟨(w.heap.size + 1 + 1 + 1), 1, none⟩ = some (.string fa) := (dt.cell_cells fS32 1).trans rfl
   have cS34_2 : (W31.setCell ⟨(w.heap.size + 1 + 1 + 1), 6, none⟩ (.slice a3 k3 c3)).cell? ⟨(w.heap.size + 1 + 1 + 1), 2, none⟩ = some (.string fn) := (dt.cell_cells fS32 2).trans rfl
   have cS34_3 : (W31.setCell ⟨(w.heap.size + 1 + 1 + 1), 6, none⟩ (.slice a3 k3 c3)).cell? ⟨(w.heap.size + 1 + 1 + 1), 3, none⟩ = some (.string ⟨#[]⟩) := (dt.cell_cells fS32 3).trans rfl
   have cS34_4 : (W31.setCell ⟨(w.heap.size + 1 + 1 + 1), 6, none⟩ (.slice a3 k3 c3)).cell? ⟨(w.heap.size + 1 + 1 + 1), 4, none⟩ = some (.slice a1 k1 c1) := (dt.cell_cells fS32 4).trans rfl
   have cS34_5 : (W31.setCell ⟨(w.heap.size + 1 + 1 + 1), 6, none⟩ (.slice a3 k3 c3)).cell? ⟨(w.heap.size + 1 + 1 + 1), 5, none⟩ = some (.slice a2 k2 c2) := (dt.cell_cells fS32 5).trans rfl
   have cS34_6 : (W31.setCell ⟨(w.heap.size + 1 + 1 + 1), 6, none⟩ (.slice a3 k3 c3)).cell? ⟨(w.heap.size + 1 + 1 + 1), 6, none⟩ = some (.slice a3 k3 c3) := (dt.cell_cells fS32 6).trans rfl
   have cS34_7 : (W31.setCell ⟨(w.heap.size + 1 + 1 + 1), 6, none⟩ (.slice a3 k3 c3)).cell? ⟨(w.heap.size + 1 + 1 + 1), 7, none⟩ = some (.int .i64 t.ln) := (dt.cell_cells fS32 7).trans rfl
   have cS34_8 : (W31.setCell ⟨(w.heap.size + 1 + 1 + 1), 6, none⟩ (.slice a3 k3 c3)).cell? ⟨(w.heap.size + 1 + 1 + 1), 8, none⟩ = some (.int .i64 t.co) := (dt.cell_cells fS32 8).trans rfl
   have HT := hide (dt.there_cells fR32 (o := 0) (n := 9) (by decide))
   have HF := hide (And.intro C32 (And.intro K32 (And.intro sA32 (And.intro sD32 sE32))))
   clear C32 K32 sA32 sD32 sE32
   go_wp2_with (first
    | refine wpList_store_mid (by rfl) 57 _ _ (by rfl) (w.heap.size + 1 + 1) 0 (selC 1 fa fn em a1 k1 c1 a2 k2 c2 a3 k3 c3 t.ln t.co).toArray (by rfl) (by rfl) (unhide HT) infoSel (dt.one_cells (cs := selC 1 fa fn em a1 k1 c1 a2 k2 c2 a3 k3 c3 t.ln t.co) (by rfl)) ?_)
   refine bodyPost_ret (rgn.result_row_tmp rfl _ _ (w.heap.size + 1 + 1) 0 (selC 1 fa fn em a1 k1 c1 a2 k2 c2 a3 k3 c3 t.ln t.co) _ rfl (World.rangeAt_setCells_same _ _ _ _ (unhide HT)) Tryz.underlying57 rfl infoSel) rfl ?_
   obtain ⟨hC, hK, hA, hD, hE⟩ := unhide HF
   have hv := (unhide HV).1 (by first | rfl | trivial)
   have hso := unhide HSO
   rw [hv] at hso ⊢
   cases q with
   | none =>
    exact ⟨_, [], rfl, ⟨⟨_, _, _, _, _, _, _, _, _, _, _, _, _, _, _, rfl⟩, fun d e => by cases e⟩, hC.out (by omega) (by omega) _ _, hK.out (by omega) _ _⟩
   | some ss =>
    obtain ⟨l, rfl⟩ := hso rfl
    obtain ⟨F2, hD⟩ := hD l rfl
    have hA2 := hA.out (b := w.heap.size + 1 + 1) (.inl (by omega)) 0 (selC 1 fa fn em a1 k1 c1 a2 k2 c2 a3 k3 c3 t.ln t.co)
    have hD2 := hD.out (b := w.heap.size + 1 + 1) (.inl (by omega)) 0 (selC 1 fa fn em a1 k1 c1 a2 k2 c2 a3 k3 c3 t.ln t.co)
    have hE2 := hE.out (b := w.heap.size + 1 + 1) (.inl (by omega)) 0 (selC 1 fa fn em a1 k1 c1 a2 k2 c2 a3 k3 c3 t.ln t.co)
    obtain ⟨F', p1, p2, p3⟩ := sel_ow hA2 hD2 hE2 (by omega) (by omega) (by omega) 1 fa fn em t.ln t.co w.heap.size (by omega) (by omega) (by omega)
    exact ⟨_, F', rfl, ⟨⟨_, _, _, _, _, _, _, _, _, _, _, _, _, _, _, rfl⟩, fun d e => by obtain rfl := Option.some.inj e; exact ⟨p1, p2, p3⟩⟩, hC.out (by omega) (by omega) _ _, hK.out (by omega) _ _⟩
theorem isN_alive {c : Cu} (h : c.kd = 0) : c.isN = decide (c.tok.k = 3) := by unfold Cu.isN; simp [h]
set_option maxRecDepth 4000 in
set_option maxHeartbeats 8000000 in
theorem selection_ok (L : Cu → Option Dt × Cu) (S : Cu → Option (List Dt) × Cu) (c : Cu) (hc0 : c.Ok) (hF : c.isP bDots = false → SelPs 93 (fieldS L S c.tok) c.tok.ln c.tok.co c) (hI : c.isP bDots = true → SelPs 95 (inlineS L S c.tok) c.tok.ln c.tok.co c.take) (hP : c.isP bDots = true → SelPs 94 (spreadS L c.tok) c.tok.ln c.tok.co c.take) : SelFn 69 (selS L S) c := by
 intro B p w h
 have hlt := h.lt
 have hplt := h.plt
 have ht := hide (fun W (hc : CurAt W B p c) => token_ok B p c W hc)
 have hpu := hide (fun W (hc : CurAt W B p c) => punct_ok B p c bDots W hc)
 have hf := hide (fun hq W (hc : CurAt W B p c) => hF hq B p W hc)
 have hi := hide (fun hq W (hc : CurAt W B p c.take) => hI hq B p W hc)
 have hs := hide (fun hq W (hc : CurAt W B p c.take) => hP hq B p W hc)
 have ht2 := hide (fun W (hc : CurAt W B p c.take) => token_ok B p c.take W hc)
 have hw := hide (fun W (hc : CurAt W B p c.take) b (hw : Wds W b 1 1 [bOn]) => isWord_ok B p c.take b 1 1 [bOn] W hc hw (by omega))
 have hpc := hide (show c.punct bDots = if c.isP bDots then c.take else c from rfl)
 have hal := hide (show c.isP bDots = true → c.take.isN = decide (c.take.tok.k = 3) from fun e => isN_alive (isP_k e).1)
 have hVV : selS L S c = if c.isP bDots then (if c.take.isN && !inW [bOn] c.take.tok.tx then spreadS L c.tok c.take else inlineS L S c.tok c.take) else fieldS L S c.tok c := rfl
 obtain ⟨V, hV⟩ : ∃ V, V = selS L S c := ⟨_, rfl⟩
 rw [← hV] at hVV ⊢
 have HV := hide hVV
 obtain ⟨VF, hVF⟩ : ∃ VF, VF = fieldS L S c.tok c := ⟨_, rfl⟩
 rw [← hVF] at hf HV
 obtain ⟨VI, hVI⟩ : ∃ VI, VI = inlineS L S c.tok c.take := ⟨_, rfl⟩
 rw [← hVI] at hi HV
 obtain ⟨VP, hVP⟩ : ∃ VP, VP = spreadS L c.tok c.take := ⟨_, rfl⟩
 rw [← hVP] at hs HV
 have hiw := hide (show c.take.isW [bOn] = (c.take.isN && inW [bOn] c.take.tok.tx) from rfl)
 obtain ⟨IW, hIW⟩ : ∃ IW, IW = c.take.isW [bOn] := ⟨_, rfl⟩
 rw [← hIW] at hw hiw
 obtain ⟨IN, hIN⟩ : ∃ IN, IN = c.take.isN := ⟨_, rfl⟩
 rw [← hIN] at hal hiw HV
 obtain ⟨t2, et2⟩ : ∃ t2, t2 = c.take.tok := ⟨_, rfl⟩
 rw [← et2] at ht2 hal HV hiw
 obtain ⟨IQ, hIQ⟩ : ∃ IQ, IQ = inW [bOn] t2.tx := ⟨_, rfl⟩
 rw [← hIQ] at hiw HV
 obtain ⟨t, et⟩ : ∃ t, t = c.tok := ⟨_, rfl⟩
 rw [← et] at ht hf hi hs
 obtain ⟨Z, hZ⟩ : ∃ Z, Z = c.take := ⟨_, rfl⟩
 rw [← hZ] at hi hs ht2 hw hpc
 obtain ⟨Y, hY⟩ : ∃ Y, Y = c.punct bDots := ⟨_, rfl⟩
 rw [← hY] at hpu hpc
 obtain ⟨IP, hIP⟩ : ∃ IP, IP = c.isP bDots := ⟨_, rfl⟩
 rw [← hIP] at hpu hpc hf hi hs hal HV
 have hf1 := fld_pos t
 have hf2 := fld_kind t2
 clear hF hI hP hVV hV hVF hVI hVP hIW hIN et2 hIQ et hZ hY hIP
 unfold Tk.cells at ht ht2
 obtain ⟨k2, l2, o2, f2, g2, x2, v2⟩ := t2
 simp only at ht2 hf2 hal hiw HV
 unfold ptr at ht ht2 hpu hw
 unfold par at hf hi hs ⊢
 go_enter Tryz.func69, Tryz.ntmps69
 go_wp2_with fail
 obtain ⟨W1, hW1⟩ : ∃ W1, W1 = allocs w [(#[.pointer (some ⟨B, 0, none⟩)], 83), (#[.int .i64 0, .string ⟨#[]⟩, .string ⟨#[]⟩, .string ⟨#[]⟩, .slice none 0 0, .slice none 0 0, .slice none 0 0, .int .i64 0, .int .i64 0], 57)] := ⟨_, rfl⟩
 have gW1 : W1 = ((w.alloc (.cells #[.pointer (some ⟨B, 0, none⟩)] 83)).alloc (.cells #[.int .i64 0, .string ⟨#[]⟩, .string ⟨#[]⟩, .string ⟨#[]⟩, .slice none 0 0, .slice none 0 0, .slice none 0 0, .int .i64 0, .int .i64 0] 57)) := hW1
 have aa := allocs_at [(#[.pointer (some ⟨B, 0, none⟩)], 83), (#[.int .i64 0, .string ⟨#[]⟩, .string ⟨#[]⟩, .string ⟨#[]⟩, .slice none 0 0, .slice none 0 0, .slice none 0 0, .int .i64 0, .int .i64 0], 57)] w
 have fP1 : W1.heap[w.heap.size]? = some (.cells #[.pointer (some ⟨B, 0, none⟩)] 83 (0, 0)) := by rw [hW1]; exact aa 0 _ rfl
 have fR1 : W1.heap[(w.heap.size + 1)]? = some (.cells #[.int .i64 0, .string ⟨#[]⟩, .string ⟨#[]⟩, .string ⟨#[]⟩, .slice none 0 0, .slice none 0 0, .slice none 0 0, .int .i64 0, .int .i64 0] 57 (0, 0)) := by rw [hW1]; exact aa 1 _ rfl
 have bw : Below w.heap.size w W1 := by rw [hW1]; exact allocs_below _ _
 have sz1 : w.heap.size + 2 ≤ W1.heap.size := by rw [hW1, allocs_size]; exact Nat.le_refl _
 have K1 : Kp B w W1 := Kp.of bw
 have C1 := h.below bw
 rw [← gW1]
 clear gW1 hW1 bw aa h
 refine ((unhide ht) _ C1).mono ?_
 rintro e W2 ⟨rfl, bb2⟩
 have J2 : Kp B W1 W2 := Kp.of bb2
 have C2 := C1.below bb2
 have sz2 := J2.size
 have fP2 : W2.heap[w.heap.size]? = some (.cells #[.pointer (some ⟨B, 0, none⟩)] 83 (0, 0)) := (J2.block _ (by omega) (by omega)).trans fP1
 have fR2 : W2.heap[(w.heap.size + 1)]? = some (.cells #[.int .i64 0, .string ⟨#[]⟩, .string ⟨#[]⟩, .string ⟨#[]⟩, .slice none 0 0, .slice none 0 0, .slice none 0 0, .int .i64 0, .int .i64 0] 57 (0, 0)) := (J2.block _ (by omega) (by omega)).trans fR1
 have K2 := K1.trans J2
 clear fP1 fR1 K1 C1 J2
 have fP3 : (W2.alloc (.cells #[.int .i64 t.ln, .int .i64 t.co] 28)).heap[w.heap.size]? = some (.cells #[.pointer (some ⟨B, 0, none⟩)] 83 (0, 0)) := (Below.heap_alloc W2 _ _ (by omega)).trans fP2
 have fR3 : (W2.alloc (.cells #[.int .i64 t.ln, .int .i64 t.co] 28)).heap[(w.heap.size + 1)]? = some (.cells #[.int .i64 0, .string ⟨#[]⟩, .string ⟨#[]⟩, .string ⟨#[]⟩, .slice none 0 0, .slice none 0 0, .slice none 0 0, .int .i64 0, .int .i64 0] 57 (0, 0)) := (Below.heap_alloc W2 _ _ (by omega)).trans fR2
 have fQ3 : (W2.alloc (.cells #[.int .i64 t.ln, .int .i64 t.co] 28)).heap[W2.heap.size]? = some (.cells #[.int .i64 t.ln, .int .i64 t.co] 28 (0, 0)) := heap_alloc_new _ _
 have bb3 : Below W2.heap.size W2 (W2.alloc (.cells #[.int .i64 t.ln, .int .i64 t.co] 28)) := (Below.refl _ _).alloc (Nat.le_refl _) _
 have C3 := C2.below bb3
 have K3 := K2.trans (Kp.of bb3)
 have cP4_0 : (W2.alloc (.cells #[.int .i64 t.ln, .int .i64 t.co] 28)).cell? ⟨w.heap.size, 0, none⟩ = some (.pointer (some ⟨B, 0, none⟩)) := (dt.cell_cells fP3 0).trans rfl
 clear ht
 go_wp2_with fail
 obtain ⟨W5, hW5⟩ : ∃ W5, W5 = (W2.alloc (.cells #[.int .i64 t.ln, .int .i64 t.co] 28)) := ⟨_, rfl⟩
 rw [← hW5] at fP3 fR3 fQ3 C3 K3 ⊢
 have sz5 : W2.heap.size + 1 ≤ W5.heap.size := by rw [hW5]; simp only [size_setC, dt.size_setCells, World.size_alloc]; exact Nat.le_refl _
 clear hW5 cP4_0 fP2 fR2 K2 C2
 refine ((unhide hpu) _ C3).mono ?_
 rintro e W6 ⟨rfl, C6, J6⟩
 have sz6 := J6.size
 have fP6 : W6.heap[w.heap.size]? = some (.cells #[.pointer (some ⟨B, 0, none⟩)] 83 (0, 0)) := (J6.block _ (by omega) (by omega)).trans fP3
 have fR6 : W6.heap[(w.heap.size + 1)]? = some (.cells #[.int .i64 0, .string ⟨#[]⟩, .string ⟨#[]⟩, .string ⟨#[]⟩, .slice none 0 0, .slice none 0 0, .slice none 0 0, .int .i64 0, .int .i64 0] 57 (0, 0)) := (J6.block _ (by omega) (by omega)).trans fR3
 have fQ6 : W6.heap[W2.heap.size]? = some (.cells #[.int .i64 t.ln, .int .i64 t.co] 28 (0, 0)) := (J6.block _ (by omega) (by omega)).trans fQ3
 have K6 := K3.trans J6
 clear fP3 fR3 fQ3 K3 C3 J6
 clear hpu
 cases IP
 ·obtain rfl : Y = c := unhide hpc
  have hv := hide (show V = VF from unhide HV)
  clear hpc HV hal hi hs ht2 hw hiw hf1 hf2
  have cP7_0 : W6.cell? ⟨w.heap.size, 0, none⟩ = some (.pointer (some ⟨B, 0, none⟩)) := (dt.cell_cells fP6 0).trans rfl
  have cQ8_0 : W6.cell? ⟨W2.heap.size, 0, none⟩ = some (.int .i64 t.ln) := (dt.cell_cells fQ6 0).trans rfl
  have cQ8_1 : W6.cell? ⟨W2.heap.size, 1, none⟩ = some (.int .i64 t.co) := (dt.cell_cells fQ6 1).trans rfl
  go_wp2_with fail
  refine ((unhide hf) (by first | rfl | trivial) _ C6).mono ?_
  rintro e W9 ⟨cs, F, rfl, hpo, C9, J9⟩
  have sz9 := J9.size
  have fP9 : W9.heap[w.heap.size]? = some (.cells #[.pointer (some ⟨B, 0, none⟩)] 83 (0, 0)) := (J9.block _ (by omega) (by omega)).trans fP6
  have fR9 : W9.heap[(w.heap.size + 1)]? = some (.cells #[.int .i64 0, .string ⟨#[]⟩, .string ⟨#[]⟩, .string ⟨#[]⟩, .slice none 0 0, .slice none 0 0, .slice none 0 0, .int .i64 0, .int .i64 0] 57 (0, 0)) := (J9.block _ (by omega) (by omega)).trans fR6
  have fQ9 : W9.heap[W2.heap.size]? = some (.cells #[.int .i64 t.ln, .int .i64 t.co] 28 (0, 0)) := (J9.block _ (by omega) (by omega)).trans fQ6
  have K9 := K6.trans J9
  clear fP6 fR6 fQ6 K6 C6 J9 cP7_0 cQ8_0 cQ8_1
  obtain ⟨z1, z2, z3, z4, z5, z6, z7, z8, z9, u1, u2, u3, u4, u5, u6, rfl⟩ := hpo.shape
  have HT := hide (dt.there_cells fR9 (o := 0) (n := 9) (by decide))
  have HF := hide (And.intro C9 (And.intro K9 hpo))
  clear C9 K9 hpo
  go_wp2_with (first
   | refine wpList_store_mid (by rfl) 57 _ _ (by rfl) (w.heap.size + 1) 0 (selC z1 z2 z3 z4 z5 z6 z7 z8 z9 u1 u2 u3 u4 u5 u6).toArray (by rfl) (by rfl) (unhide HT) infoSel (dt.one_cells (cs := selC z1 z2 z3 z4 z5 z6 z7 z8 z9 u1 u2 u3 u4 u5 u6) (by rfl)) ?_)
  refine bodyPost_ret (rgn.result_row_tmp rfl _ _ (w.heap.size + 1) 0 (selC z1 z2 z3 z4 z5 z6 z7 z8 z9 u1 u2 u3 u4 u5 u6) _ rfl (World.rangeAt_setCells_same _ _ _ _ (unhide HT)) Tryz.underlying57 rfl infoSel) rfl ?_
  obtain ⟨hC, hK, hpo⟩ := unhide HF
  rw [unhide hv]
  exact ⟨_, F, rfl, ⟨⟨_, _, _, _, _, _, _, _, _, _, _, _, _, _, _, rfl⟩, fun d e => let hh := hpo.own d e; ⟨ow_out hh.1 (fun hb => by have := (hh.2.2 _ hb).1; omega) 0 _, hh.2.1, fun b hb => ⟨by have := (hh.2.2 b hb).1; omega, by rw [dt.size_setCells]; exact (hh.2.2 b hb).2⟩⟩⟩, hC.out (by omega) (by omega) _ _, hK.out (by omega) _ _⟩
 ·obtain rfl : Y = Z := unhide hpc
  have hal2 := hide ((unhide hal) (by first | rfl | trivial))
  have hv := hide (show V = if IN && !IQ then VP else VI from unhide HV)
  clear hpc HV hal hf hf1
  have cP7_0 : W6.cell? ⟨w.heap.size, 0, none⟩ = some (.pointer (some ⟨B, 0, none⟩)) := (dt.cell_cells fP6 0).trans rfl
  go_wp2_with fail
  refine ((unhide ht2) _ C6).mono ?_
  rintro e W8 ⟨rfl, bb8⟩
  have J8 : Kp B W6 W8 := Kp.of bb8
  have C8 := C6.below bb8
  have sz8 := J8.size
  have fP8 : W8.heap[w.heap.size]? = some (.cells #[.pointer (some ⟨B, 0, none⟩)] 83 (0, 0)) := (J8.block _ (by omega) (by omega)).trans fP6
  have fR8 : W8.heap[(w.heap.size + 1)]? = some (.cells #[.int .i64 0, .string ⟨#[]⟩, .string ⟨#[]⟩, .string ⟨#[]⟩, .slice none 0 0, .slice none 0 0, .slice none 0 0, .int .i64 0, .int .i64 0] 57 (0, 0)) := (J8.block _ (by omega) (by omega)).trans fR6
  have fQ8 : W8.heap[W2.heap.size]? = some (.cells #[.int .i64 t.ln, .int .i64 t.co] 28 (0, 0)) := (J8.block _ (by omega) (by omega)).trans fQ6
  have K8 := K6.trans J8
  clear fP6 fR6 fQ6 K6 C6 J8 cP7_0
  clear ht2
  by_cases hk3 : k2 = 3
  ·obtain rfl : IN = true := by have := unhide hal2; rw [this]; simpa using hk3
   obtain rfl : IW = IQ := by have := unhide hiw; simpa using this
   clear hal2 hiw
   subst hk3
   have cP9_0 : W8.cell? ⟨w.heap.size, 0, none⟩ = some (.pointer (some ⟨B, 0, none⟩)) := (dt.cell_cells fP8 0).trans rfl
   have fP10 : (W8.alloc (.cells #[.string ⟨#[111, 110]⟩] 9)).heap[w.heap.size]? = some (.cells #[.pointer (some ⟨B, 0, none⟩)] 83 (0, 0)) := (Below.heap_alloc W8 _ _ (by omega)).trans fP8
   have fR10 : (W8.alloc (.cells #[.string ⟨#[111, 110]⟩] 9)).heap[(w.heap.size + 1)]? = some (.cells #[.int .i64 0, .string ⟨#[]⟩, .string ⟨#[]⟩, .string ⟨#[]⟩, .slice none 0 0, .slice none 0 0, .slice none 0 0, .int .i64 0, .int .i64 0] 57 (0, 0)) := (Below.heap_alloc W8 _ _ (by omega)).trans fR8
   have fQ10 : (W8.alloc (.cells #[.string ⟨#[111, 110]⟩] 9)).heap[W2.heap.size]? = some (.cells #[.int .i64 t.ln, .int .i64 t.co] 28 (0, 0)) := (Below.heap_alloc W8 _ _ (by omega)).trans fQ8
   have fX10 : (W8.alloc (.cells #[.string ⟨#[111, 110]⟩] 9)).heap[W8.heap.size]? = some (.cells #[.string ⟨#[111, 110]⟩] 9 (0, 0)) := heap_alloc_new _ _
   have bb10 : Below W8.heap.size W8 (W8.alloc (.cells #[.string ⟨#[111, 110]⟩] 9)) := (Below.refl _ _).alloc (Nat.le_refl _) _
   have C10 := C8.below bb10
   have K10 := K8.trans (Kp.of bb10)
   go_wp2_with fail
   obtain ⟨W11, hW11⟩ : ∃ W11, W11 = (W8.alloc (.cells #[.string ⟨#[111, 110]⟩] 9)) := ⟨_, rfl⟩
   rw [← hW11] at fP10 fR10 fQ10 fX10 C10 K10 ⊢
   have sz11 : W8.heap.size + 1 ≤ W11.heap.size := by rw [hW11]; simp only [size_setC, dt.size_setCells, World.size_alloc]; exact Nat.le_refl _
   clear hW11 cP9_0 fP8 fR8 fQ8 K8 C8
   refine ((unhide hw) _ C10 W8.heap.size ⟨rfl, by omega, by omega, fun i hi => by obtain rfl : i = 0 := (by omega); exact (dt.cell_cells fX10 0).trans rfl⟩).mono ?_
   rintro e W12 ⟨rfl, bb12⟩
   have J12 : Kp B W11 W12 := Kp.of bb12
   have C12 := C10.below bb12
   have sz12 := J12.size
   have fP12 : W12.heap[w.heap.size]? = some (.cells #[.pointer (some ⟨B, 0, none⟩)] 83 (0, 0)) := (J12.block _ (by omega) (by omega)).trans fP10
   have fR12 : W12.heap[(w.heap.size + 1)]? = some (.cells #[.int .i64 0, .string ⟨#[]⟩, .string ⟨#[]⟩, .string ⟨#[]⟩, .slice none 0 0, .slice none 0 0, .slice none 0 0, .int .i64 0, .int .i64 0] 57 (0, 0)) := (J12.block _ (by omega) (by omega)).trans fR10
   have fQ12 : W12.heap[W2.heap.size]? = some (.cells #[.int .i64 t.ln, .int .i64 t.co] 28 (0, 0)) := (J12.block _ (by omega) (by omega)).trans fQ10
   have fX12 : W12.heap[W8.heap.size]? = some (.cells #[.string ⟨#[111, 110]⟩] 9 (0, 0)) := (J12.block _ (by omega) (by omega)).trans fX10
   have K12 := K10.trans J12
   clear fP10 fR10 fQ10 fX10 K10 C10 J12
   clear hw
   cases IW
   ·have hv2 := hide (show V = VP from unhide hv)
    clear hv hi
    have cP13_0 : W12.cell? ⟨w.heap.size, 0, none⟩ = some (.pointer (some ⟨B, 0, none⟩)) := (dt.cell_cells fP12 0).trans rfl
    have cQ14_0 : W12.cell? ⟨W2.heap.size, 0, none⟩ = some (.int .i64 t.ln) := (dt.cell_cells fQ12 0).trans rfl
    have cQ14_1 : W12.cell? ⟨W2.heap.size, 1, none⟩ = some (.int .i64 t.co) := (dt.cell_cells fQ12 1).trans rfl
    go_wp2_with fail
    refine ((unhide hs) (by first | rfl | trivial) _ C12).mono ?_
    rintro e W15 ⟨cs, F, rfl, hpo, C15, J15⟩
    have sz15 := J15.size
    have fP15 : W15.heap[w.heap.size]? = some (.cells #[.pointer (some ⟨B, 0, none⟩)] 83 (0, 0)) := (J15.block _ (by omega) (by omega)).trans fP12
    have fR15 : W15.heap[(w.heap.size + 1)]? = some (.cells #[.int .i64 0, .string ⟨#[]⟩, .string ⟨#[]⟩, .string ⟨#[]⟩, .slice none 0 0, .slice none 0 0, .slice none 0 0, .int .i64 0, .int .i64 0] 57 (0, 0)) := (J15.block _ (by omega) (by omega)).trans fR12
    have fQ15 : W15.heap[W2.heap.size]? = some (.cells #[.int .i64 t.ln, .int .i64 t.co] 28 (0, 0)) := (J15.block _ (by omega) (by omega)).trans fQ12
    have fX15 : W15.heap[W8.heap.size]? = some (.cells #[.string ⟨#[111, 110]⟩] 9 (0, 0)) := (J15.block _ (by omega) (by omega)).trans fX12
    have K15 := K12.trans J15
    clear fP12 fR12 fQ12 fX12 K12 C12 J15 cP13_0 cQ14_0 cQ14_1
    obtain ⟨z1, z2, z3, z4, z5, z6, z7, z8, z9, u1, u2, u3, u4, u5, u6, rfl⟩ := hpo.shape
    have HT := hide (dt.there_cells fR15 (o := 0) (n := 9) (by decide))
    have HF := hide (And.intro C15 (And.intro K15 hpo))
    clear C15 K15 hpo
    go_wp2_with (first
     | refine wpList_store_mid (by rfl) 57 _ _ (by rfl) (w.heap.size + 1) 0 (selC z1 z2 z3 z4 z5 z6 z7 z8 z9 u1 u2 u3 u4 u5 u6).toArray (by rfl) (by rfl) (unhide HT) infoSel (dt.one_cells (cs := selC z1 z2 z3 z4 z5 z6 z7 z8 z9 u1 u2 u3 u4 u5 u6) (by rfl)) ?_)
    refine bodyPost_ret (rgn.result_row_tmp rfl _ _ (w.heap.size + 1) 0 (selC z1 z2 z3 z4 z5 z6 z7 z8 z9 u1 u2 u3 u4 u5 u6) _ rfl (World.rangeAt_setCells_same _ _ _ _ (unhide HT)) Tryz.underlying57 rfl infoSel) rfl ?_
    obtain ⟨hC, hK, hpo⟩ := unhide HF
    rw [unhide hv2]
    exact ⟨_, F, rfl, ⟨⟨_, _, _, _, _, _, _, _, _, _, _, _, _, _, _, rfl⟩, fun d e => let hh := hpo.own d e; ⟨ow_out hh.1 (fun hb => by have := (hh.2.2 _ hb).1; omega) 0 _, hh.2.1, fun b hb => ⟨by have := (hh.2.2 b hb).1; omega, by rw [dt.size_setCells]; exact (hh.2.2 b hb).2⟩⟩⟩, hC.out (by omega) (by omega) _ _, hK.out (by omega) _ _⟩
   ·have hv2 := hide (show V = VI from unhide hv)
    clear hv hs
    have cP13_0 : W12.cell? ⟨w.heap.size, 0, none⟩ = some (.pointer (some ⟨B, 0, none⟩)) := (dt.cell_cells fP12 0).trans rfl
    have cQ14_0 : W12.cell? ⟨W2.heap.size, 0, none⟩ = some (.int .i64 t.ln) := (dt.cell_cells fQ12 0).trans rfl
    have cQ14_1 : W12.cell? ⟨W2.heap.size, 1, none⟩ = some (.int .i64 t.co) := (dt.cell_cells fQ12 1).trans rfl
    go_wp2_with fail
    refine ((unhide hi) (by first | rfl | trivial) _ C12).mono ?_
    rintro e W15 ⟨cs, F, rfl, hpo, C15, J15⟩
    have sz15 := J15.size
    have fP15 : W15.heap[w.heap.size]? = some (.cells #[.pointer (some ⟨B, 0, none⟩)] 83 (0, 0)) := (J15.block _ (by omega) (by omega)).trans fP12
    have fR15 : W15.heap[(w.heap.size + 1)]? = some (.cells #[.int .i64 0, .string ⟨#[]⟩, .string ⟨#[]⟩, .string ⟨#[]⟩, .slice none 0 0, .slice none 0 0, .slice none 0 0, .int .i64 0, .int .i64 0] 57 (0, 0)) := (J15.block _ (by omega) (by omega)).trans fR12
    have fQ15 : W15.heap[W2.heap.size]? = some (.cells #[.int .i64 t.ln, .int .i64 t.co] 28 (0, 0)) := (J15.block _ (by omega) (by omega)).trans fQ12
    have fX15 : W15.heap[W8.heap.size]? = some (.cells #[.string ⟨#[111, 110]⟩] 9 (0, 0)) := (J15.block _ (by omega) (by omega)).trans fX12
    have K15 := K12.trans J15
    clear fP12 fR12 fQ12 fX12 K12 C12 J15 cP13_0 cQ14_0 cQ14_1
    obtain ⟨z1, z2, z3, z4, z5, z6, z7, z8, z9, u1, u2, u3, u4, u5, u6, rfl⟩ := hpo.shape
    have HT := hide (dt.there_cells fR15 (o := 0) (n := 9) (by decide))
    have HF := hide (And.intro C15 (And.intro K15 hpo))
    clear C15 K15 hpo
    go_wp2_with (first
     | refine wpList_store_mid (by rfl) 57 _ _ (by rfl) (w.heap.size + 1) 0 (selC z1 z2 z3 z4 z5 z6 z7 z8 z9 u1 u2 u3 u4 u5 u6).toArray (by rfl) (by rfl) (unhide HT) infoSel (dt.one_cells (cs := selC z1 z2 z3 z4 z5 z6 z7 z8 z9 u1 u2 u3 u4 u5 u6) (by rfl)) ?_)
    refine bodyPost_ret (rgn.result_row_tmp rfl _ _ (w.heap.size + 1) 0 (selC z1 z2 z3 z4 z5 z6 z7 z8 z9 u1 u2 u3 u4 u5 u6) _ rfl (World.rangeAt_setCells_same _ _ _ _ (unhide HT)) Tryz.underlying57 rfl infoSel) rfl ?_
    obtain ⟨hC, hK, hpo⟩ := unhide HF
    rw [unhide hv2]
    exact ⟨_, F, rfl, ⟨⟨_, _, _, _, _, _, _, _, _, _, _, _, _, _, _, rfl⟩, fun d e => let hh := hpo.own d e; ⟨ow_out hh.1 (fun hb => by have := (hh.2.2 _ hb).1; omega) 0 _, hh.2.1, fun b hb => ⟨by have := (hh.2.2 b hb).1; omega, by rw [dt.size_setCells]; exact (hh.2.2 b hb).2⟩⟩⟩, hC.out (by omega) (by omega) _ _, hK.out (by omega) _ _⟩
  ·obtain rfl : IN = false := by have := unhide hal2; rw [this]; simpa using hk3
   have hv2 := hide (show V = VI from unhide hv)
   clear hal2 hiw hv hs hw
   have cP9_0 : W8.cell? ⟨w.heap.size, 0, none⟩ = some (.pointer (some ⟨B, 0, none⟩)) := (dt.cell_cells fP8 0).trans rfl
   have cQ10_0 : W8.cell? ⟨W2.heap.size, 0, none⟩ = some (.int .i64 t.ln) := (dt.cell_cells fQ8 0).trans rfl
   have cQ10_1 : W8.cell? ⟨W2.heap.size, 1, none⟩ = some (.int .i64 t.co) := (dt.cell_cells fQ8 1).trans rfl
   go_wp2_with fail
   refine ((unhide hi) (by first | rfl | trivial) _ C8).mono ?_
   rintro e W11 ⟨cs, F, rfl, hpo, C11, J11⟩
   have sz11 := J11.size
   have fP11 : W11.heap[w.heap.size]? = some (.cells #[.pointer (some ⟨B, 0, none⟩)] 83 (0, 0)) := (J11.block _ (by omega) (by omega)).trans fP8
   have fR11 : W11.heap[(w.heap.size + 1)]? = some (.cells #[.int .i64 0, .string ⟨#[]⟩, .string ⟨#[]⟩, .string ⟨#[]⟩, .slice none 0 0, .slice none 0 0, .slice none 0 0, .int .i64 0, .int .i64 0] 57 (0, 0)) := (J11.block _ (by omega) (by omega)).trans fR8
   have fQ11 : W11.heap[W2.heap.size]? = some (.cells #[.int .i64 t.ln, .int .i64 t.co] 28 (0, 0)) := (J11.block _ (by omega) (by omega)).trans fQ8
   have K11 := K8.trans J11
   clear fP8 fR8 fQ8 K8 C8 J11 cP9_0 cQ10_0 cQ10_1
   obtain ⟨z1, z2, z3, z4, z5, z6, z7, z8, z9, u1, u2, u3, u4, u5, u6, rfl⟩ := hpo.shape
   have HT := hide (dt.there_cells fR11 (o := 0) (n := 9) (by decide))
   have HF := hide (And.intro C11 (And.intro K11 hpo))
   clear C11 K11 hpo
   go_wp2_with (first
    | refine wpList_store_mid (by rfl) 57 _ _ (by rfl) (w.heap.size + 1) 0 (selC z1 z2 z3 z4 z5 z6 z7 z8 z9 u1 u2 u3 u4 u5 u6).toArray (by rfl) (by rfl) (unhide HT) infoSel (dt.one_cells (cs := selC z1 z2 z3 z4 z5 z6 z7 z8 z9 u1 u2 u3 u4 u5 u6) (by rfl)) ?_)
   refine bodyPost_ret (rgn.result_row_tmp rfl _ _ (w.heap.size + 1) 0 (selC z1 z2 z3 z4 z5 z6 z7 z8 z9 u1 u2 u3 u4 u5 u6) _ rfl (World.rangeAt_setCells_same _ _ _ _ (unhide HT)) Tryz.underlying57 rfl infoSel) rfl ?_
   obtain ⟨hC, hK, hpo⟩ := unhide HF
   rw [unhide hv2]
   exact ⟨_, F, rfl, ⟨⟨_, _, _, _, _, _, _, _, _, _, _, _, _, _, _, rfl⟩, fun d e => let hh := hpo.own d e; ⟨ow_out hh.1 (fun hb => by have := (hh.2.2 _ hb).1; omega) 0 _, hh.2.1, fun b hb => ⟨by have := (hh.2.2 b hb).1; omega, by rw [dt.size_setCells]; exact (hh.2.2 b hb).2⟩⟩⟩, hC.out (by omega) (by omega) _ _, hK.out (by omega) _ _⟩
theorem infoSz : ∃ i z, Tryz.prog.info? 57 = some i ∧ i.zero = some z ∧ i.size = 9 ∧ i.bytes = 144 ∧ z.cells.size = 9 := by
 have hin : (Tryz.prog.info? 57).map (fun i => (i.bytes, i.size, i.zero.map (·.cells.size))) = some (144, 9, some 9) := by kernel_rfl
 cases hq : Tryz.prog.info? 57 with
 | none => simp [hq] at hin
 | some i =>
  simp [hq] at hin
  obtain ⟨h1, h2, z, hz, h3⟩ := hin
  exact ⟨i, z, rfl, hz, h2, h1, h3⟩
set_option maxRecDepth 4000 in
set_option maxHeartbeats 8000000 in
theorem brkS_ok (E : Cu → Option Dt × Cu) (c : Cu) (left right : ByteArray) (hc0 : c.Ok) (hlen : c.ts.length ≤ 4294967296) (hG : Goes E) (hE : ∀ cc : Cu, cc.Ok → cc.ts = c.ts → c.ix < cc.ix → SelFn 69 E cc) (B p : Nat) (w : World) (h : CurAt w B p c) :
  Calls Tryz.prog 68 #[par B, .string left, .string right, .func (.func 69) #[par B] #[]] w fun e w' => ∃ sl, e = .returned (.tuple #[sl, .bool (brk E left right 1 c).1.isSome]) ∧ BrkPS (brk E left right 1 c).1 w.heap.size w' sl ∧ CurAt w' B p (brk E left right 1 c).2 ∧ Kp B w w' := by
 have en : ∀ args w, (callFunc 69 args).run Tryz.prog w = .ok (.enter 69 args) w := fun _ _ => rfl
 have hB := h.lt
 have hp := h.plt
 obtain ⟨w0, hw0⟩ : ∃ w0, w0 = w.alloc (.cells #[.pointer (some ⟨B, 0, none⟩)] 83) := ⟨_, rfl⟩
 have b0 : Below w.heap.size w w0 := by rw [hw0]; exact (Below.refl _ _).alloc (Nat.le_refl _) _
 have z0 : w.heap.size + 1 ≤ w0.heap.size := by rw [hw0]; simp
 have p0 : w0.heap[w.heap.size]? = some (.cells #[.pointer (some ⟨B, 0, none⟩)] 83 (0, 0)) := by rw [hw0]; exact heap_alloc_new _ _
 have ho := hide (open_ok B p c left w0 (h.below b0))
 have hPc := hide (fun (W : World) (hk : W.heap[w.heap.size]? = some (.cells #[.pointer (some ⟨B, 0, none⟩)] 83 (0, 0))) => show W.cell? ⟨w.heap.size, 0, none⟩ = some (.pointer (some ⟨B, 0, none⟩)) from (dt.cell_cells hk 0).trans rfl)
 cases hO : c.opB left
 ·have hs := hide (show brk E left right 1 c = (none, c.opn left) from by unfold brk; rw [hO]; rfl)
  rw [hO] at ho
  clear h hE
  unfold ptr at ho
  unfold par
  go_enter Tryz.func68, Tryz.ntmps68
  go_wp2_with fail
  rw [← hw0]
  refine (unhide ho).mono ?_
  rintro e w1 ⟨rfl, hc1, hk1⟩
  clear ho
  go_wp2_with fail
  go_ret2
  rw [unhide hs]
  exact ⟨_, rfl, rfl, hc1, (Kp.of b0).trans hk1⟩
 ·have hst := opn_stp hc0 left
  have hoi := opn_ix hO
  obtain ⟨R, hR⟩ : ∃ R, R = brkF E right 1 c.ts.length [] (c.opn left) := ⟨_, rfl⟩
  have hs := hide (show brk E left right 1 c = R from by unfold brk; rw [hO, hR]; rfl)
  rw [hO] at ho
  have HR := hide hR.symm
  clear h hR hO
  have hcl := hide (fun W (cc : Cu) (hc : CurAt W B p cc) => close_ok B p cc right W hc)
  have hip := hide (fun W (cc : Cu) (hc : CurAt W B p cc) => isPunct_ok B p cc right W hc)
  have hEE := hide (fun (cc : Cu) (h1 : cc.Ok) (h2 : cc.ts = c.ts) (h3 : c.ix < cc.ix) => hE cc h1 h2 h3 B p)
  clear hE
  unfold ptr at ho hcl hip
  unfold par at hEE ⊢
  go_enter Tryz.func68, Tryz.ntmps68
  go_wp2_with fail
  rw [← hw0]
  refine (unhide ho).mono ?_
  rintro e w1 ⟨rfl, hc1, hk1⟩
  have hz1 := hk1.size
  have p1 := (hk1.block w.heap.size (by omega) (by omega)).trans p0
  have K1 := (Kp.of b0).trans hk1
  clear ho hw0 p0 b0 hk1
  go_wp2_with fail
  go_loopg [10] c.ts.length (fun g sl wr => ∃ (l : List Dt) (cc : Cu) (Gs : List Nat), Hid (brkF E right 1 g l cc = R) ∧ CurAt wr B p cc ∧ Hid (Grow 57 9 wr (w.heap.size + 1) l sl Gs) ∧ Kp B w wr ∧ Hid (cc.ts = c.ts) ∧ c.ts.length ≤ g + cc.ix ∧ l.length + 1 + c.ix ≤ cc.ix ∧ Hid (wr.heap[w.heap.size]? = some (.cells #[.pointer (some ⟨B, 0, none⟩)] 83 (0, 0))) ∧ w.heap.size + 1 ≤ wr.heap.size)
  case atStart => exact ⟨[], c.opn left, [], HR, hc1, hide Grow.nil, K1, hide hst.ts, Nat.le_add_right _ _, by rw [hoi]; simp; omega, hide p1, by omega⟩
  case round =>
   obtain ⟨l, cc, Gs, hrun, hcc, hgr, hkr, hts, hfu, hll, hpr, hzr⟩ := hrel
   have hixl := hcc.ok.lt
   rw [unhide hts] at hixl
   obtain ⟨al, cl, hsl⟩ := (unhide hgr).form
   subst hsl
   have cP := (unhide hPc) wr (unhide hpr)
   obtain ⟨g', rfl⟩ : ∃ g', gk = g' + 1 := ⟨gk - 1, by omega⟩
   by_cases hl0 : l.length = 0
   ·obtain rfl : l = [] := List.eq_nil_of_length_eq_zero hl0
    obtain ⟨w2, hw2⟩ : ∃ w2, w2 = wr := ⟨_, rfl⟩
    subst hw2
    have b2 := Below.refl w2.heap.size w2
    have hc2 := hcc
    have hgr2 := hgr
    have hk2 := hkr
    have hp2 := hpr
    clear hl0
    have hrun2 := hide (show (match (E cc).1 with | none => (none, (E cc).2) | some d => brkF E right 1 g' ([] ++ [d]) (E cc).2) = R from by
     have e := unhide hrun
     rw [brkF, if_pos (.inl (by decide))] at e
     exact e)
    have hgo := hG cc hcc.ok
    have hcall := hide ((unhide hEE) cc hcc.ok (unhide hts) (by omega) w2 hc2)
    go_wp2_with fail
    refine (unhide hcall).mono ?_
    rintro e w3 ⟨cs, F, rfl, hpo, hc3, hk3⟩
    obtain ⟨U, hU⟩ : ∃ U, U = E cc := ⟨_, rfl⟩
    rw [← hU] at hrun2 hgo hpo hc3 ⊢
    obtain ⟨r, C⟩ := U
    obtain ⟨z1, z2, z3, z4, z5, z6, z7, z8, z9, u1, u2, u3, u4, u5, u6, hcs⟩ := hpo.shape
    unfold selC at hcs
    subst hcs
    clear hcall hU hrun
    have HP := hide hpo
    clear hpo
    have HC3 := hide hc3
    have HK3 := hide hk3
    have hz3 := hk3.size
    have hp3 := hide ((hk3.block w.heap.size (by omega) (by omega)).trans (unhide hp2))
    cases r with
    | none =>
     have hrun3 := hide (show (none, C) = R from unhide hrun2)
     go_wp2_with fail
     go_ret2
     rw [unhide hs, ← unhide hrun3]
     exact ⟨_, rfl, rfl, (unhide HC3).below ((Below.refl _ _).alloc (Nat.le_refl _) _), (hk2.trans (unhide HK3)).trans (Kp.of ((Below.refl _ _).alloc (Nat.le_refl _) _))⟩
    | some d =>
     have hrun3 := hide (show brkF E right 1 g' ([] ++ [d]) C = R from unhide hrun2)
     have hix3 : cc.ix < C.ix := hgo.2 rfl
     have hts3 := hgo.1.ts
     have hlt3 := hgo.1.ok.lt
     rw [hts3, unhide hts] at hlt3
     have hgr3 := (unhide hgr2).kp (unhide HK3) (by omega)
     obtain ⟨it, zt, q1, q2, q3, q4, q5⟩ := infoSz
     have HQ := hide (And.intro q1 (And.intro q2 (And.intro q3 (And.intro q4 q5))))
     clear q1 q2 q3 q4 q5
     obtain ⟨xss, hr3, hol3, hx3⟩ := hgr3.row
     have hr4 := hide (fun o => World.ownsRow.alloc hr3 o)
     have hbyt := hide (show (([] : List Dt).length + 1) * 144 ≤ 140737488355328 ∧ ([] : List Dt).length + 1 ≤ maxLen from ⟨by omega, by unfold maxLen; omega⟩)
     have hsz4 := hide (fun o => show w.heap.size + 1 ≤ (w3.alloc o).heap.size from by have := hz3; have := b2.size; simp; omega)
     have how := (unhide HP).own d rfl
     have hone := hide (how.1.one)
     have HW := hide how
     have HG := hide (And.intro hgr3 (And.intro hol3 hx3))
     have hTS := hide hts3
     clear hrun2 hgo hts3 hgr3 hr3 hol3 hx3 how
     go_wp2_with (first
      | (at_builtin; refine dt.wp_snoc (by rfl) _ _ (by rfl) Tryz.underlying51 (unhide HQ).1 (unhide HQ).2.1 (unhide HQ).2.2.1 (unhide HQ).2.2.2.1 (unhide HQ).2.2.2.2 (by omega) (w.heap.size + 1) ([] : List Dt).length xss.flatten _ (by rfl) ((unhide hr4) _) [.int .i64 z1, .string z2, .string z3, .string z4, .slice z5 z6 z7, .slice z8 z9 u1, .slice u2 u3 u4, .int .i64 u5, .int .i64 u6] (by rfl) (unhide hone) (w3.heap.size + 1) (by simp) (by rfl) (unhide hbyt).1 (unhide hbyt).2 ((unhide hsz4) _) ?_; intro sl' w7 hr7 b7 hold7 hat7; have H7 := hide (And.intro hr7 (And.intro b7 (And.intro hold7 hat7))); clear hr7 b7 hold7 hat7))
     go_roundg g'
     case rel =>
      obtain ⟨hr7, b7, hold7, hat7⟩ := unhide H7
      obtain ⟨hgr3, hol3, hx3⟩ := unhide HG
      obtain ⟨w1', w2', w3'⟩ := unhide HW
      have bA : Below w3.heap.size w3 (w3.alloc (.cells #[.int .i64 z1, .string z2, .string z3, .string z4, .slice z5 z6 z7, .slice z8 z9 u1, .slice u2 u3 u4, .int .i64 u5, .int .i64 u6] 57)) := (Below.refl _ _).alloc (Nat.le_refl _) _
      have hgr4 := hgr3.keep bA.size (fun b hb _ => bA.block b hb)
      have hown := fun b (hb : (Value.slice al ([] : List Dt).length cl).ownBlock = some b) => (let ⟨_, hr, _⟩ := (unhide hgr2).row; (hr.lt b hb).2)
      have hsz : w.heap.size ≤ w2.heap.size := hk2.size
      have hmore := hgr4.more (dt.OwL.agree (fun w w' e cs F => dt.Ow.agree e cs F) (fun b hb j => dt.cell_blk (bA.block b (hgr3.rng b hb).2) j) hol3) hx3 (ow_below w1' bA (fun b hb => (w3' b hb).2)) w2' (fun b hb => ⟨by have := (w3' b hb).1; omega, by have := (w3' b hb).2; have := bA.size; omega, fun hm => by have := ((unhide hgr2).rng b hm).2; have := (w3' b hb).1; omega, fun e => by have := hown b e; have := (w3' b hb).1; omega⟩) (by rfl) hr7 (by have := (hr7.lt); have := b7.size; exact this) hold7 hat7
      have hBs : B < w3.heap.size := by omega
      have hCA := (unhide HC3).below bA
      have b7' := b7.mono (Nat.le_succ w.heap.size)
      refine ⟨[] ++ [d], C, Gs ++ F, hrun3, ?_, hide hmore, ?_, hide ((unhide hTS).trans (unhide hts)), by omega, by rw [List.length_append]; simp; omega, hide ((b7.block w.heap.size (Nat.lt_succ_self _)).trans ((bA.block _ (by omega)).trans (unhide hp3))), by have := b7.size; have := bA.size; omega⟩
      ·exact hCA.low b7' hB hp
      ·exact ((hk2.trans (unhide HK3)).trans (Kp.of bA)).low b7'
     case measure => exact Nat.lt_succ_self _
   ·have hlz : ¬ ((l.length : Int) = 0) := by omega
    have hlz1 : ¬ (l = []) := fun e => hl0 (by rw [e]; rfl)
    have hip2 := hide ((unhide hip) wr cc hcc)
    go_wp2_with fail
    refine (unhide hip2).mono ?_
    rintro e w2 ⟨rfl, b2⟩
    have hc2 := hcc.below b2
    have hgr2 := hide ((unhide hgr).keep b2.size (fun b hb _ => b2.block b hb))
    have hk2 := hkr.trans (Kp.of b2)
    have hs2 := b2.size
    have hp2 := hide ((b2.block w.heap.size (by omega)).trans (unhide hpr))
    have cP2 := (unhide hPc) w2 (unhide hp2)
    cases hQ : cc.isP right
    ·clear hip2
     have hrun2 := hide (show (match (E cc).1 with | none => (none, (E cc).2) | some d => brkF E right 1 g' (l ++ [d]) (E cc).2) = R from by
      have e := unhide hrun
      rw [brkF, if_pos (.inr hQ)] at e
      exact e)
     have hgo := hG cc hcc.ok
     have hcall := hide ((unhide hEE) cc hcc.ok (unhide hts) (by omega) w2 hc2)
     go_wp2_with fail
     refine (unhide hcall).mono ?_
     rintro e w3 ⟨cs, F, rfl, hpo, hc3, hk3⟩
     obtain ⟨U, hU⟩ : ∃ U, U = E cc := ⟨_, rfl⟩
     rw [← hU] at hrun2 hgo hpo hc3 ⊢
     obtain ⟨r, C⟩ := U
     obtain ⟨z1, z2, z3, z4, z5, z6, z7, z8, z9, u1, u2, u3, u4, u5, u6, hcs⟩ := hpo.shape
     unfold selC at hcs
     subst hcs
     clear hcall hU hrun
     have HP := hide hpo
     clear hpo
     have HC3 := hide hc3
     have HK3 := hide hk3
     have hz3 := hk3.size
     have hp3 := hide ((hk3.block w.heap.size (by omega) (by omega)).trans (unhide hp2))
     cases r with
     | none =>
      have hrun3 := hide (show (none, C) = R from unhide hrun2)
      go_wp2_with fail
      go_ret2
      rw [unhide hs, ← unhide hrun3]
      exact ⟨_, rfl, rfl, (unhide HC3).below ((Below.refl _ _).alloc (Nat.le_refl _) _), (hk2.trans (unhide HK3)).trans (Kp.of ((Below.refl _ _).alloc (Nat.le_refl _) _))⟩
     | some d =>
      have hrun3 := hide (show brkF E right 1 g' (l ++ [d]) C = R from unhide hrun2)
      have hix3 : cc.ix < C.ix := hgo.2 rfl
      have hts3 := hgo.1.ts
      have hlt3 := hgo.1.ok.lt
      rw [hts3, unhide hts] at hlt3
      have hgr3 := (unhide hgr2).kp (unhide HK3) (by omega)
      obtain ⟨it, zt, q1, q2, q3, q4, q5⟩ := infoSz
      have HQ := hide (And.intro q1 (And.intro q2 (And.intro q3 (And.intro q4 q5))))
      clear q1 q2 q3 q4 q5
      obtain ⟨xss, hr3, hol3, hx3⟩ := hgr3.row
      have hr4 := hide (fun o => World.ownsRow.alloc hr3 o)
      have hbyt := hide (show (l.length + 1) * 144 ≤ 140737488355328 ∧ l.length + 1 ≤ maxLen from ⟨by omega, by unfold maxLen; omega⟩)
      have hsz4 := hide (fun o => show w.heap.size + 1 ≤ (w3.alloc o).heap.size from by have := hz3; have := b2.size; simp; omega)
      have how := (unhide HP).own d rfl
      have hone := hide (how.1.one)
      have HW := hide how
      have HG := hide (And.intro hgr3 (And.intro hol3 hx3))
      have hTS := hide hts3
      clear hrun2 hgo hts3 hgr3 hr3 hol3 hx3 how
      go_wp2_with (first
       | (at_builtin; refine dt.wp_snoc (by rfl) _ _ (by rfl) Tryz.underlying51 (unhide HQ).1 (unhide HQ).2.1 (unhide HQ).2.2.1 (unhide HQ).2.2.2.1 (unhide HQ).2.2.2.2 (by omega) (w.heap.size + 1) l.length xss.flatten _ (by rfl) ((unhide hr4) _) [.int .i64 z1, .string z2, .string z3, .string z4, .slice z5 z6 z7, .slice z8 z9 u1, .slice u2 u3 u4, .int .i64 u5, .int .i64 u6] (by rfl) (unhide hone) (w3.heap.size + 1) (by simp) (by rfl) (unhide hbyt).1 (unhide hbyt).2 ((unhide hsz4) _) ?_; intro sl' w7 hr7 b7 hold7 hat7; have H7 := hide (And.intro hr7 (And.intro b7 (And.intro hold7 hat7))); clear hr7 b7 hold7 hat7))
      go_roundg g'
      case rel =>
       obtain ⟨hr7, b7, hold7, hat7⟩ := unhide H7
       obtain ⟨hgr3, hol3, hx3⟩ := unhide HG
       obtain ⟨w1', w2', w3'⟩ := unhide HW
       have bA : Below w3.heap.size w3 (w3.alloc (.cells #[.int .i64 z1, .string z2, .string z3, .string z4, .slice z5 z6 z7, .slice z8 z9 u1, .slice u2 u3 u4, .int .i64 u5, .int .i64 u6] 57)) := (Below.refl _ _).alloc (Nat.le_refl _) _
       have hgr4 := hgr3.keep bA.size (fun b hb _ => bA.block b hb)
       have hown := fun b (hb : (Value.slice al l.length cl).ownBlock = some b) => (let ⟨_, hr, _⟩ := (unhide hgr2).row; (hr.lt b hb).2)
       have hsz : w.heap.size ≤ w2.heap.size := hk2.size
       have hmore := hgr4.more (dt.OwL.agree (fun w w' e cs F => dt.Ow.agree e cs F) (fun b hb j => dt.cell_blk (bA.block b (hgr3.rng b hb).2) j) hol3) hx3 (ow_below w1' bA (fun b hb => (w3' b hb).2)) w2' (fun b hb => ⟨by have := (w3' b hb).1; omega, by have := (w3' b hb).2; have := bA.size; omega, fun hm => by have := ((unhide hgr2).rng b hm).2; have := (w3' b hb).1; omega, fun e => by have := hown b e; have := (w3' b hb).1; omega⟩) (by rfl) hr7 (by have := (hr7.lt); have := b7.size; exact this) hold7 hat7
       have hBs : B < w3.heap.size := by omega
       have hCA := (unhide HC3).below bA
       have b7' := b7.mono (Nat.le_succ w.heap.size)
       refine ⟨l ++ [d], C, Gs ++ F, hrun3, ?_, hide hmore, ?_, hide ((unhide hTS).trans (unhide hts)), by omega, by rw [List.length_append]; simp; omega, hide ((b7.block w.heap.size (Nat.lt_succ_self _)).trans ((bA.block _ (by omega)).trans (unhide hp3))), by have := b7.size; have := bA.size; omega⟩
       ·exact hCA.low b7' hB hp
       ·exact ((hk2.trans (unhide HK3)).trans (Kp.of bA)).low b7'
      case measure => exact Nat.lt_succ_self _
    ·have hrun2 := hide (show (some l, cc.cls right) = R from by
      have e := unhide hrun
      rw [brkF, if_neg (fun e => by rcases e with e | e; omega; rw [hQ] at e; cases e)] at e
      exact e)
     have hcl2 := hide ((unhide hcl) w2 cc hc2)
     rw [hQ] at hcl2
     clear hrun hip2
     go_wp2_with fail
     refine (unhide hcl2).mono ?_
     rintro e w3 ⟨rfl, hc3, hk3⟩
     clear hcl2
     go_wp2_with fail
     go_ret2
     rw [unhide hs, ← unhide hrun2]
     exact ⟨_, rfl, ⟨Gs, ((unhide hgr2).kp hk3 (by omega)).lo (Nat.le_succ _)⟩, hc3, hk2.trans hk3⟩
theorem brkS_lo {r : Option (List Dt)} {lo lo' : Nat} {w : World} {sl : Value} (h : BrkPS r lo w sl) (hl : lo' ≤ lo) : BrkPS r lo' w sl := by
 unfold BrkPS at h ⊢
 cases r with
 | none => exact h
 | some l => obtain ⟨G, hg⟩ := h; exact ⟨G, hg.lo hl⟩
set_option maxRecDepth 4000 in
theorem selections_ok (E : Cu → Option Dt × Cu) (c : Cu) (hc0 : c.Ok) (hlen : c.ts.length ≤ 4294967296) (hG : Goes E) (hE : ∀ cc : Cu, cc.Ok → cc.ts = c.ts → c.ix < cc.ix → SelFn 69 E cc) : SelsAt (brk E bLc bRc 1) c := by
 intro B p w h
 have hb := hide (fun W (bb : Below w.heap.size w W) => brkS_ok E c bLc bRc hc0 hlen hG hE B p W (h.below bb))
 have bA := hide (fun o => show Below w.heap.size w (w.alloc o) from (Below.refl _ _).alloc (Nat.le_refl _) _)
 obtain ⟨R, hR⟩ : ∃ R, R = brk E bLc bRc 1 c := ⟨_, rfl⟩
 rw [← hR] at hb ⊢
 clear h hE hR
 unfold par at hb ⊢
 go_enter Tryz.func53, Tryz.ntmps53
 go_wp2_with fail
 refine ((unhide hb) _ ((unhide bA) _)).mono ?_
 rintro e w1 ⟨sl, rfl, hbp, hc, hk⟩
 clear hb
 go_wp2_with fail
 go_ret2
 exact ⟨sl, rfl, brkS_lo hbp ((unhide bA) _).size, hc, (Kp.of ((unhide bA) _)).trans hk⟩
theorem selsF_ok (N : Nat) : ∀ (g : Nat) (c : Cu), c.Ok → c.ts.length ≤ 4294967296 → c.ts.length ≤ N → g ≤ N → c.ts.length ≤ g + c.ix → SelsAt (selsF (litF false N) g) c
 | 0, c, hc, h1, h2, h3, h4 => by have := hc.lt; omega
 | g + 1, c, hc, h1, h2, h3, h4 => by
  have hG := litF_goes false N
  have hL := litF_faults false N
  refine selections_ok (selS (litF false N) (selsF (litF false N) g)) c hc h1 (selS_goes hG (selsF_goes hG g)) (fun cc k1 k2 k3 => ?_)
  have e1 : cc.ts.length ≤ 1099511627777 := by rw [k2]; omega
  have e2 : cc.ts.length ≤ N := by rw [k2]; exact h2
  have ih : ∀ u : Cu, Stp cc u → SelsAt (selsF (litF false N) g) u := fun u s => selsF_ok N g u s.ok (by rw [s.ts, k2]; exact h1) (by rw [s.ts, k2]; exact h2) (by omega) (by rw [s.ts, k2]; have := s.ix; omega)
  have dr : ∀ u : Cu, Stp cc u → DirsAt (dirs (litF false N)) false u := fun u s => dirs_all false N u s.ok (by rw [s.ts]; exact e1) (by rw [s.ts]; exact e2)
  refine selection_ok _ _ cc k1 (fun hp => ?_) (fun hp => ?_) (fun hp => ?_)
  ·have s1 := fldC_stp k1
   have s2 := s1.trans (argsS_stp hG s1.ok)
   have s3 := s2.trans (dirs_stp hG s2.ok)
   refine sfield_ok _ _ cc cc.tok k1 (args_all false N _ s1.ok (by rw [s1.ts]; exact e1) (by rw [s1.ts]; exact e2)) (dr _ s2) (fun _ => ih _ s3) (fun hs => (field_some hG hL cc.tok k1 (by omega) hs).2.2)
  ·have s0 := takeP k1 hp
   have s1 := s0.trans (onC_stp s0.ok)
   have s2 := s1.trans (dirs_stp hG s1.ok)
   refine inline_ok _ _ cc.take cc.tok s0.ok (dr _ s1) (ih _ s2) (fun hs => ?_)
   cases hq : (dirs (litF false N) (onC cc.take)).1 with
   | some l => exact ⟨l, rfl⟩
   | none =>
    exfalso
    have hk := dirs_faults hG hL _ s1.ok (by rw [s1.ts]; omega) hq
    rw [sels_dead _ _ _ hk] at hs
    cases hs
  ·have s0 := takeP k1 hp
   have s1 := s0.trans (nmC_stp s0.ok (so := cc.take.isN && !inW [bOn] cc.take.tok.tx) (fun e => by simp at e; exact e.1))
   exact spread_ok _ cc.take cc.tok s0.ok (dr _ s1)
end Go.Proofs.YtcebeajjpcbgcaaGreat.cu
