import Derived.Test.YtcebeajjpcbgcaaGreatQne15
set_option linter.unusedVariables false
set_option linter.unusedSimpArgs false
namespace Go.Proofs.YtcebeajjpcbgcaaGreat.cu
open Go.ChangeShapes Go.WideShapes Go.ChangeAt Go.RowKit
open ints (hide unhide)
open dt (Dt Kp RowAt Ow Grow OwIn)
structure Ho (w : World) (d : Dt) (cs : List Value) (F : List Nat) (lo hi : Nat) : Prop where
 ow : Ow w d cs F
 nd : F.Nodup
 rng : ∀ b ∈ F, lo ≤ b ∧ b < hi
 hi : hi ≤ w.heap.size
theorem Ho.agree {w w' : World} {d : Dt} {cs : List Value} {F : List Nat} {lo hi : Nat} (h : Ho w d cs F lo hi) (hs : w.heap.size ≤ w'.heap.size) (ha : dt.Agree F w w') : Ho w' d cs F lo hi := ⟨Ow.agree d cs F ha h.ow, h.nd, h.rng, Nat.le_trans h.hi hs⟩
theorem Ho.kp {w w' : World} {d : Dt} {cs : List Value} {F : List Nat} {lo hi B : Nat} (h : Ho w d cs F lo hi) (hk : Kp B w w') (hB : B < lo) : Ho w' d cs F lo hi :=
 h.agree hk.size (fun b hb j => dt.cell_blk (hk.block b (Nat.lt_of_lt_of_le (h.rng b hb).2 h.hi) (by have := (h.rng b hb).1; omega)) j)
theorem Ho.out {w : World} {d : Dt} {cs : List Value} {F : List Nat} {lo hi b : Nat} (h : Ho w d cs F lo hi) (hb : b < lo ∨ hi ≤ b) (o : Nat) (vs : List Value) : Ho (w.setCells b o vs) d cs F lo hi :=
 h.agree (by rw [dt.size_setCells]; exact Nat.le_refl _) (fun x hx j => dt.cell_blk (dt.heap_setCells b x (by have := h.rng x hx; intro e; subst e; omega) vs o w) j)
theorem Ho.outC {w : World} {d : Dt} {cs : List Value} {F : List Nat} {lo hi b : Nat} (h : Ho w d cs F lo hi) (hb : b < lo ∨ hi ≤ b) (o : Nat) (v : Value) : Ho (w.setCell ⟨b, o, none⟩ v) d cs F lo hi := h.out hb o [v]
def varCs (nm tn tw : ByteArray) (hd : Bool) (k : Int) (tx : ByteArray) (bl : Bool) (a1 : Option Addr) (n1 c1 : Nat) (a2 : Option Addr) (n2 c2 : Nat) (l1 o1 : Int) (a3 : Option Addr) (n3 c3 : Nat) (ln co : Int) : List Value :=
 [.string nm, .string tn, .string tw, .bool hd, .int .i64 k, .string tx, .bool bl, .slice a1 n1 c1, .slice a2 n2 c2, .int .i64 l1, .int .i64 o1, .slice a3 n3 c3, .int .i64 ln, .int .i64 co]
structure VarPost (r : Option Dt) (w w' : World) (cs : List Value) (F : List Nat) : Prop where
 shape : ∃ nm tn tw hd k tx bl a1 n1 c1 a2 n2 c2 l1 o1 a3 n3 c3 ln co, cs = varCs nm tn tw hd k tx bl a1 n1 c1 a2 n2 c2 l1 o1 a3 n3 c3 ln co
 own : ∀ d, r = some d → Ow w' d cs F ∧ F.Nodup ∧ ∀ b ∈ F, w.heap.size ≤ b ∧ b < w'.heap.size
def VarFn (E : Cu → Option Dt × Cu) (c : Cu) : Prop := ∀ (B p : Nat) (w : World), CurAt w B p c → Calls Tryz.prog 74 #[par B] w fun e w' => ∃ cs F, e = .returned (.tuple #[.agg cs.toArray, .bool (E c).1.isSome]) ∧ VarPost (E c).1 w w' cs F ∧ CurAt w' B p (E c).2 ∧ Kp B w w'
def BrkPV (r : Option (List Dt)) (lo : Nat) (w' : World) (sl : Value) : Prop := match r with | none => sl = .slice none 0 0 | some l => ∃ G, Grow 72 14 w' lo l sl G
theorem infoVar : (Tryz.prog.info? 72).map (·.size) = some 14 := by kernel_rfl
theorem infoLi : (Tryz.prog.info? 70).map (·.size) = some 7 := by kernel_rfl
theorem var_ow {w : World} {v : Dt} {k : Int} {tx : ByteArray} {bl : Bool} {a1 : Option Addr} {n1 c1 : Nat} {a2 : Option Addr} {n2 c2 : Nat} {l1 o1 : Int} {F1 : List Nat} {lo1 hi1 lo2 hi2 : Nat} (h1 : Ho w v [.int .i64 k, .string tx, .bool bl, .slice a1 n1 c1, .slice a2 n2 c2, .int .i64 l1, .int .i64 o1] F1 lo1 hi1) {ds : List Dt} {a3 : Option Addr} {n3 c3 : Nat} {F2 : List Nat} (h2 : Sh w 4 ds lo2 hi2 a3 n3 c3 F2) (h12 : hi1 ≤ lo2) (nm tn tw : ByteArray) (hd : Bool) (ln co : Int) (lo : Nat) (g1 : lo ≤ lo1) (g2 : lo ≤ lo2) :
  ∃ F, Ow w (varD nm tn tw hd v ds ln co) (varCs nm tn tw hd k tx bl a1 n1 c1 a2 n2 c2 l1 o1 a3 n3 c3 ln co) F ∧ F.Nodup ∧ ∀ b ∈ F, lo ≤ b ∧ b < w.heap.size := by
 have hp : Ow w (.val (.int .i64 ln) (.val (.int .i64 co) .nil)) [.int .i64 ln, .int .i64 co] [] := pos_ow _ _ _
 have h5 := ow_app v _ _ _ F1 _ h1.ow (h2.ow hp)
 rw [List.append_nil] at h5
 refine ⟨F1 ++ F2, ?_, ?_, ?_⟩
 ·unfold varD varCs
  unfold Ow
  refine ⟨_, rfl, rfl, ?_⟩
  unfold Ow
  refine ⟨_, rfl, rfl, ?_⟩
  unfold Ow
  refine ⟨_, rfl, rfl, ?_⟩
  unfold Ow
  exact ⟨_, rfl, rfl, h5⟩
 ·rw [List.nodup_append]
  exact ⟨h1.nd, h2.nd, fun x hx y hy e => by have := h1.rng x hx; have := h2.rng y hy; omega⟩
 ·intro b hb
  have i1 := h1.hi
  have i2 := h2.hi
  rcases List.mem_append.1 hb with hb | hb
  ·have := h1.rng b hb; omega
  ·have := h2.rng b hb; omega
set_option maxRecDepth 4000 in
set_option maxHeartbeats 8000000 in
theorem variable_ok (T : TypR) (L : LitR) (c : Cu) (hc0 : c.Ok) (hT : TypAt T 100 (varC3 c)) (hL : (T (varC3 c)).2.isP bEq = true → LitAt L true (T (varC3 c)).2.take) (hD : DirsAt (dirs L) true (varU L (T (varC3 c)).2)) : VarFn (varQ T L) c := by
 intro B p w h
 have hlt := h.lt
 have hplt := h.plt
 have ht := hide (fun W (hc : CurAt W B p c) => token_ok B p c W hc)
 have hw1 := hide (fun W (hc : CurAt W B p c) => want_ok B p c bDol W hc)
 have hn := hide (fun W (hc : CurAt W B p (c.want bDol)) => nameAny_ok B p (c.want bDol) W hc)
 have hw2 := hide (fun W (hc : CurAt W B p (c.want bDol).name) => want_ok B p (c.want bDol).name bCol W hc)
 have hty := hide (fun W (hc : CurAt W B p (varC3 c)) => hT B p W hc)
 have hpu := hide (fun W (hc : CurAt W B p (T (varC3 c)).2) => punct_ok B p _ bEq W hc)
 have hli := hide (fun hq W (hc : CurAt W B p (T (varC3 c)).2.take) => hL hq B p W hc)
 have hd := hide (fun W (hc : CurAt W B p (varU L (T (varC3 c)).2)) => hD B p W hc)
 have hv3 := hide (show ((c.want bDol).name).want bCol = varC3 c from rfl)
 have hVV : varQ T L c = ((dirs L (varU L (T (varC3 c)).2)).1.map fun ds => varD (c.want bDol).nmS (((T (varC3 c)).1.map (·.1)).getD em) (((T (varC3 c)).1.map (·.2)).getD em) ((T (varC3 c)).2.isP bEq) (varV L (T (varC3 c)).2) ds c.tok.ln c.tok.co, (dirs L (varU L (T (varC3 c)).2)).2) := by
  simp only [varQ]
  cases (dirs L (varU L (T (varC3 c)).2)).1 <;> rfl
 obtain ⟨V, hV⟩ : ∃ V, V = varQ T L c := ⟨_, rfl⟩
 rw [← hV] at hVV ⊢
 clear hV
 unfold trC at hty
 obtain ⟨tn, htn⟩ : ∃ tn, tn = ((T (varC3 c)).1.map (·.1)).getD em := ⟨_, rfl⟩
 obtain ⟨tw, htw⟩ : ∃ tw, tw = ((T (varC3 c)).1.map (·.2)).getD em := ⟨_, rfl⟩
 rw [← htn, ← htw] at hty hVV
 obtain ⟨tb, htb⟩ : ∃ tb, tb = (T (varC3 c)).1.isSome := ⟨_, rfl⟩
 rw [← htb] at hty
 obtain ⟨M, hM⟩ : ∃ M, M = (T (varC3 c)).2 := ⟨_, rfl⟩
 rw [← hM] at hty hpu hli hd hVV
 have huu := hide (show varU L M = if M.isP bEq then (L M.take).2 else M from rfl)
 have hvv := hide (show varV L M = if M.isP bEq then (L M.take).1.getD zeroD else zeroD from rfl)
 have hpc := hide (show M.punct bEq = if M.isP bEq then M.take else M from rfl)
 obtain ⟨VU, hVU⟩ : ∃ VU, VU = varU L M := ⟨_, rfl⟩
 rw [← hVU] at hd hVV huu
 obtain ⟨VV, hVvv⟩ : ∃ VV, VV = varV L M := ⟨_, rfl⟩
 rw [← hVvv] at hVV hvv
 obtain ⟨X, hX⟩ : ∃ X, X = L M.take := ⟨_, rfl⟩
 rw [← hX] at hli huu hvv
 obtain ⟨q, Q⟩ := X
 simp only at hli huu hvv
 obtain ⟨lv, hlv⟩ : ∃ lv, lv = q.getD zeroD := ⟨_, rfl⟩
 rw [← hlv] at hli hvv
 obtain ⟨qs, hqs⟩ : ∃ qs, qs = q.isSome := ⟨_, rfl⟩
 rw [← hqs] at hli
 obtain ⟨U, hU⟩ : ∃ U, U = dirs L VU := ⟨_, rfl⟩
 rw [← hU] at hd hVV
 obtain ⟨r, D⟩ := U
 simp only at hd hVV
 rw [nmT_form] at hn
 have hnm := hide (show (c.want bDol).nmS = if (c.want bDol).isN then (c.want bDol).tok.tx else em from rfl)
 obtain ⟨nt, hnt⟩ : ∃ nt, nt = if (c.want bDol).isN then (c.want bDol).tok.tx else em := ⟨_, rfl⟩
 rw [← hnt] at hn hnm
 obtain ⟨x, hx⟩ : ∃ x, x = if (c.want bDol).isN then (c.want bDol).tok.ln else 0 := ⟨_, rfl⟩
 obtain ⟨y, hy⟩ : ∃ y, y = if (c.want bDol).isN then (c.want bDol).tok.co else 0 := ⟨_, rfl⟩
 rw [← hx, ← hy] at hn
 obtain ⟨NS, hNS⟩ : ∃ NS, NS = (c.want bDol).nmS := ⟨_, rfl⟩
 rw [← hNS] at hnm hVV
 obtain rfl : NS = nt := unhide hnm
 obtain ⟨V3, hV3⟩ : ∃ V3, V3 = varC3 c := ⟨_, rfl⟩
 rw [← hV3] at hty hv3
 obtain ⟨Y, hY⟩ : ∃ Y, Y = (c.want bDol).name.want bCol := ⟨_, rfl⟩
 rw [← hY] at hw2 hv3
 obtain rfl : Y = V3 := unhide hv3
 obtain ⟨N1, hN1⟩ : ∃ N1, N1 = (c.want bDol).name := ⟨_, rfl⟩
 rw [← hN1] at hn hw2
 obtain ⟨i1, hi1⟩ : ∃ i1, i1 = N1.isP bCol := ⟨_, rfl⟩
 rw [← hi1] at hw2
 obtain ⟨C1, hC1⟩ : ∃ C1, C1 = c.want bDol := ⟨_, rfl⟩
 rw [← hC1] at hn hw1
 obtain ⟨i0, hi0⟩ : ∃ i0, i0 = c.isP bDol := ⟨_, rfl⟩
 rw [← hi0] at hw1
 obtain ⟨MT, hMT⟩ : ∃ MT, MT = M.take := ⟨_, rfl⟩
 rw [← hMT] at hli hpc
 obtain ⟨MP, hMP⟩ : ∃ MP, MP = M.punct bEq := ⟨_, rfl⟩
 rw [← hMP] at hpu hpc
 have HV := hide hVV
 clear hVV
 obtain ⟨IE, hIE⟩ : ∃ IE, IE = M.isP bEq := ⟨_, rfl⟩
 rw [← hIE] at hpu hpc hli HV huu hvv
 obtain ⟨t, et⟩ : ∃ t, t = c.tok := ⟨_, rfl⟩
 rw [← et] at ht HV
 have hf1 := fld_pos t
 clear hT hL hD htn htw htb hM hVU hVvv hX hlv hqs hU hnt hx hy hNS hnm hV3 hY hv3 hN1 hi1 hC1 hi0 hMT hMP hIE et
 unfold Tk.cells at ht
 unfold ptr at ht hn hd hw1 hw2 hty hpu hli
 unfold par
 go_enter Tryz.func74, Tryz.ntmps74
 go_wp2_with fail
 obtain ⟨W1, hW1⟩ : ∃ W1, W1 = allocs w [(#[.pointer (some ⟨B, 0, none⟩)], 83), (#[.string ⟨#[]⟩, .string ⟨#[]⟩, .string ⟨#[]⟩, .bool false, .int .i64 0, .string ⟨#[]⟩, .bool false, .slice none 0 0, .slice none 0 0, .int .i64 0, .int .i64 0, .slice none 0 0, .int .i64 0, .int .i64 0], 72)] := ⟨_, rfl⟩
 have gW1 : W1 = ((w.alloc (.cells #[.pointer (some ⟨B, 0, none⟩)] 83)).alloc (.cells #[.string ⟨#[]⟩, .string ⟨#[]⟩, .string ⟨#[]⟩, .bool false, .int .i64 0, .string ⟨#[]⟩, .bool false, .slice none 0 0, .slice none 0 0, .int .i64 0, .int .i64 0, .slice none 0 0, .int .i64 0, .int .i64 0] 72)) := hW1
 have aa := allocs_at [(#[.pointer (some ⟨B, 0, none⟩)], 83), (#[.string ⟨#[]⟩, .string ⟨#[]⟩, .string ⟨#[]⟩, .bool false, .int .i64 0, .string ⟨#[]⟩, .bool false, .slice none 0 0, .slice none 0 0, .int .i64 0, .int .i64 0, .slice none 0 0, .int .i64 0, .int .i64 0], 72)] w
 have fP1 : W1.heap[w.heap.size]? = some (.cells #[.pointer (some ⟨B, 0, none⟩)] 83 (0, 0)) := by rw [hW1]; exact aa 0 _ rfl
 have fR1 : W1.heap[(w.heap.size + 1)]? = some (.cells #[.string ⟨#[]⟩, .string ⟨#[]⟩, .string ⟨#[]⟩, .bool false, .int .i64 0, .string ⟨#[]⟩, .bool false, .slice none 0 0, .slice none 0 0, .int .i64 0, .int .i64 0, .slice none 0 0, .int .i64 0, .int .i64 0] 72 (0, 0)) := by rw [hW1]; exact aa 1 _ rfl
 have bw : Below w.heap.size w W1 := by rw [hW1]; exact allocs_below _ _
 have sz1 : w.heap.size + 2 ≤ W1.heap.size := by rw [hW1, allocs_size]; exact Nat.le_refl _
 have K1 : Kp B w W1 := Kp.of bw
 have C1 := h.below bw
 rw [← gW1]
 clear gW1 hW1 bw aa h
 refine ((unhide ht) _ C1).mono ?_
 rintro e W2 ⟨rfl, bb2⟩
 have J2 : Kp B W1 W2 := Kp.of bb2
 have C2 := C1.below bb2
 have sz2 := J2.size
 have fP2 : W2.heap[w.heap.size]? = some (.cells #[.pointer (some ⟨B, 0, none⟩)] 83 (0, 0)) := (J2.block _ (by omega) (by omega)).trans fP1
 have fR2 : W2.heap[(w.heap.size + 1)]? = some (.cells #[.string ⟨#[]⟩, .string ⟨#[]⟩, .string ⟨#[]⟩, .bool false, .int .i64 0, .string ⟨#[]⟩, .bool false, .slice none 0 0, .slice none 0 0, .int .i64 0, .int .i64 0, .slice none 0 0, .int .i64 0, .int .i64 0] 72 (0, 0)) := (J2.block _ (by omega) (by omega)).trans fR1
 have K2 := K1.trans J2
 clear fP1 fR1 K1 C1 J2
 clear ht
 have fP3 : (W2.alloc (.cells #[.string ⟨#[]⟩, .string ⟨#[]⟩, .string ⟨#[]⟩, .bool false, .int .i64 0, .string ⟨#[]⟩, .bool false, .slice none 0 0, .slice none 0 0, .int .i64 0, .int .i64 0, .slice none 0 0, .int .i64 t.ln, .int .i64 t.co] 72)).heap[w.heap.size]? = some (.cells #[.pointer (some ⟨B, 0, none⟩)] 83 (0, 0)) := (Below.heap_alloc W2 _ _ (by omega)).trans fP2
 have fR3 : (W2.alloc (.cells #[.string ⟨#[]⟩, .string ⟨#[]⟩, .string ⟨#[]⟩, .bool false, .int .i64 0, .string ⟨#[]⟩, .bool false, .slice none 0 0, .slice none 0 0, .int .i64 0, .int .i64 0, .slice none 0 0, .int .i64 t.ln, .int .i64 t.co] 72)).heap[(w.heap.size + 1)]? = some (.cells #[.string ⟨#[]⟩, .string ⟨#[]⟩, .string ⟨#[]⟩, .bool false, .int .i64 0, .string ⟨#[]⟩, .bool false, .slice none 0 0, .slice none 0 0, .int .i64 0, .int .i64 0, .slice none 0 0, .int .i64 0, .int .i64 0] 72 (0, 0)) := (Below.heap_alloc W2 _ _ (by omega)).trans fR2
 have fS3 : (W2.alloc (.cells #[.string ⟨#[]⟩, .string ⟨#[]⟩, .string ⟨#[]⟩, .bool false, .int .i64 0, .string ⟨#[]⟩, .bool false, .slice none 0 0, .slice none 0 0, .int .i64 0, .int .i64 0, .slice none 0 0, .int .i64 t.ln, .int .i64 t.co] 72)).heap[W2.heap.size]? = some (.cells #[.string ⟨#[]⟩, .string ⟨#[]⟩, .string ⟨#[]⟩, .bool false, .int .i64 0, .string ⟨#[]⟩, .bool false, .slice none 0 0, .slice none 0 0, .int .i64 0, .int .i64 0, .slice none 0 0, .int .i64 t.ln, .int .i64 t.co] 72 (0, 0)) := heap_alloc_new _ _
 have bb3 : Below W2.heap.size W2 (W2.alloc (.cells #[.string ⟨#[]⟩, .string ⟨#[]⟩, .string ⟨#[]⟩, .bool false, .int .i64 0, .string ⟨#[]⟩, .bool false, .slice none 0 0, .slice none 0 0, .int .i64 0, .int .i64 0, .slice none 0 0, .int .i64 t.ln, .int .i64 t.co] 72)) := (Below.refl _ _).alloc (Nat.le_refl _) _
 have C3 := C2.below bb3
 have K3 := K2.trans (Kp.of bb3)
 have cP4_0 : (W2.alloc (.cells #[.string ⟨#[]⟩, .string ⟨#[]⟩, .string ⟨#[]⟩, .bool false, .int .i64 0, .string ⟨#[]⟩, .bool false, .slice none 0 0, .slice none 0 0, .int .i64 0, .int .i64 0, .slice none 0 0, .int .i64 t.ln, .int .i64 t.co] 72)).cell? ⟨w.heap.size, 0, none⟩ = some (.pointer (some ⟨B, 0, none⟩)) := (dt.cell_cells fP3 0).trans rfl
 have HH5 := hide (And.intro fP3 (And.intro fR3 (And.intro fS3 (And.intro C3 (And.intro K3 (And.intro fP2 (And.intro fR2 (And.intro K2 (C2)))))))))
 clear fP3 fR3 fS3 C3 K3 fP2 fR2 K2 C2
 go_wp2_with fail
 obtain ⟨fP3, fR3, fS3, C3, K3, fP2, fR2, K2, C2⟩ := unhide HH5
 clear HH5
 obtain ⟨W6, hW6⟩ : ∃ W6, W6 = (W2.alloc (.cells #[.string ⟨#[]⟩, .string ⟨#[]⟩, .string ⟨#[]⟩, .bool false, .int .i64 0, .string ⟨#[]⟩, .bool false, .slice none 0 0, .slice none 0 0, .int .i64 0, .int .i64 0, .slice none 0 0, .int .i64 t.ln, .int .i64 t.co] 72)) := ⟨_, rfl⟩
 rw [← hW6] at fP3 fR3 fS3 C3 K3 ⊢
 have sz6 : W2.heap.size + 1 ≤ W6.heap.size := by rw [hW6]; simp only [size_setC, dt.size_setCells, World.size_alloc]; exact Nat.le_refl _
 clear hW6 cP4_0 fP2 fR2 K2 C2
 refine ((unhide hw1) _ C3).mono ?_
 rintro e W7 ⟨rfl, C7, J7⟩
 have sz7 := J7.size
 have fP7 : W7.heap[w.heap.size]? = some (.cells #[.pointer (some ⟨B, 0, none⟩)] 83 (0, 0)) := (J7.block _ (by omega) (by omega)).trans fP3
 have fR7 : W7.heap[(w.heap.size + 1)]? = some (.cells #[.string ⟨#[]⟩, .string ⟨#[]⟩, .string ⟨#[]⟩, .bool false, .int .i64 0, .string ⟨#[]⟩, .bool false, .slice none 0 0, .slice none 0 0, .int .i64 0, .int .i64 0, .slice none 0 0, .int .i64 0, .int .i64 0] 72 (0, 0)) := (J7.block _ (by omega) (by omega)).trans fR3
 have fS7 : W7.heap[W2.heap.size]? = some (.cells #[.string ⟨#[]⟩, .string ⟨#[]⟩, .string ⟨#[]⟩, .bool false, .int .i64 0, .string ⟨#[]⟩, .bool false, .slice none 0 0, .slice none 0 0, .int .i64 0, .int .i64 0, .slice none 0 0, .int .i64 t.ln, .int .i64 t.co] 72 (0, 0)) := (J7.block _ (by omega) (by omega)).trans fS3
 have K7 := K3.trans J7
 clear fP3 fR3 fS3 K3 C3 J7
 clear hw1
 have cP8_0 : W7.cell? ⟨w.heap.size, 0, none⟩ = some (.pointer (some ⟨B, 0, none⟩)) := (dt.cell_cells fP7 0).trans rfl
 have HH9 := hide (And.intro fP7 (And.intro fR7 (And.intro fS7 (And.intro C7 (K7)))))
 clear fP7 fR7 fS7 C7 K7
 go_wp2_with fail
 obtain ⟨fP7, fR7, fS7, C7, K7⟩ := unhide HH9
 clear HH9
 refine ((unhide hn) _ C7).mono ?_
 rintro e W10 ⟨rfl, C10, J10⟩
 have sz10 := J10.size
 have fP10 : W10.heap[w.heap.size]? = some (.cells #[.pointer (some ⟨B, 0, none⟩)] 83 (0, 0)) := (J10.block _ (by omega) (by omega)).trans fP7
 have fR10 : W10.heap[(w.heap.size + 1)]? = some (.cells #[.string ⟨#[]⟩, .string ⟨#[]⟩, .string ⟨#[]⟩, .bool false, .int .i64 0, .string ⟨#[]⟩, .bool false, .slice none 0 0, .slice none 0 0, .int .i64 0, .int .i64 0, .slice none 0 0, .int .i64 0, .int .i64 0] 72 (0, 0)) := (J10.block _ (by omega) (by omega)).trans fR7
 have fS10 : W10.heap[W2.heap.size]? = some (.cells #[.string ⟨#[]⟩, .string ⟨#[]⟩, .string ⟨#[]⟩, .bool false, .int .i64 0, .string ⟨#[]⟩, .bool false, .slice none 0 0, .slice none 0 0, .int .i64 0, .int .i64 0, .slice none 0 0, .int .i64 t.ln, .int .i64 t.co] 72 (0, 0)) := (J10.block _ (by omega) (by omega)).trans fS7
 have K10 := K7.trans J10
 clear fP7 fR7 fS7 K7 C7 J10 cP8_0
 clear hn
 have fP11 : (W10.alloc (.cells #[.string NS, .int .i64 x, .int .i64 y] 120)).heap[w.heap.size]? = some (.cells #[.pointer (some ⟨B, 0, none⟩)] 83 (0, 0)) := (Below.heap_alloc W10 _ _ (by omega)).trans fP10
 have fR11 : (W10.alloc (.cells #[.string NS, .int .i64 x, .int .i64 y] 120)).heap[(w.heap.size + 1)]? = some (.cells #[.string ⟨#[]⟩, .string ⟨#[]⟩, .string ⟨#[]⟩, .bool false, .int .i64 0, .string ⟨#[]⟩, .bool false, .slice none 0 0, .slice none 0 0, .int .i64 0, .int .i64 0, .slice none 0 0, .int .i64 0, .int .i64 0] 72 (0, 0)) := (Below.heap_alloc W10 _ _ (by omega)).trans fR10
 have fS11 : (W10.alloc (.cells #[.string NS, .int .i64 x, .int .i64 y] 120)).heap[W2.heap.size]? = some (.cells #[.string ⟨#[]⟩, .string ⟨#[]⟩, .string ⟨#[]⟩, .bool false, .int .i64 0, .string ⟨#[]⟩, .bool false, .slice none 0 0, .slice none 0 0, .int .i64 0, .int .i64 0, .slice none 0 0, .int .i64 t.ln, .int .i64 t.co] 72 (0, 0)) := (Below.heap_alloc W10 _ _ (by omega)).trans fS10
 have fN11 : (W10.alloc (.cells #[.string NS, .int .i64 x, .int .i64 y] 120)).heap[W10.heap.size]? = some (.cells #[.string NS, .int .i64 x, .int .i64 y] 120 (0, 0)) := heap_alloc_new _ _
 have bb11 : Below W10.heap.size W10 (W10.alloc (.cells #[.string NS, .int .i64 x, .int .i64 y] 120)) := (Below.refl _ _).alloc (Nat.le_refl _) _
 have C11 := C10.below bb11
 have K11 := K10.trans (Kp.of bb11)
 have cS13_0 : (W10.alloc (.cells #[.string NS, .int .i64 x, .int .i64 y] 120)).cell? ⟨W2.heap.size, 0, none⟩ = some (.string ⟨#[]⟩) := (dt.cell_cells fS11 0).trans rfl
 have zS13_0 : (W10.alloc (.cells #[.string NS, .int .i64 x, .int .i64 y] 120)).frozen? ⟨W2.heap.size, 0, none⟩ = false := dt.frozen_cells fS11 0
 have fP12 : ((W10.alloc (.cells #[.string NS, .int .i64 x, .int .i64 y] 120)).setCell ⟨W2.heap.size, 0, none⟩ (.string NS)).heap[w.heap.size]? = some (.cells #[.pointer (some ⟨B, 0, none⟩)] 83 (0, 0)) := (Below.heap_setCell (W10.alloc (.cells #[.string NS, .int .i64 x, .int .i64 y] 120)) _ _ _ (show w.heap.size ≠ W2.heap.size by omega)).trans fP11
 have fR12 : ((W10.alloc (.cells #[.string NS, .int .i64 x, .int .i64 y] 120)).setCell ⟨W2.heap.size, 0, none⟩ (.string NS)).heap[(w.heap.size + 1)]? = some (.cells #[.string ⟨#[]⟩, .string ⟨#[]⟩, .string ⟨#[]⟩, .bool false, .int .i64 0, .string ⟨#[]⟩, .bool false, .slice none 0 0, .slice none 0 0, .int .i64 0, .int .i64 0, .slice none 0 0, .int .i64 0, .int .i64 0] 72 (0, 0)) := (Below.heap_setCell (W10.alloc (.cells #[.string NS, .int .i64 x, .int .i64 y] 120)) _ _ _ (show (w.heap.size + 1) ≠ W2.heap.size by omega)).trans fR11
 have fS12 : ((W10.alloc (.cells #[.string NS, .int .i64 x, .int .i64 y] 120)).setCell ⟨W2.heap.size, 0, none⟩ (.string NS)).heap[W2.heap.size]? = some (.cells #[.string NS, .string ⟨#[]⟩, .string ⟨#[]⟩, .bool false, .int .i64 0, .string ⟨#[]⟩, .bool false, .slice none 0 0, .slice none 0 0, .int .i64 0, .int .i64 0, .slice none 0 0, .int .i64 t.ln, .int .i64 t.co] 72 (0, 0)) := (dt.heap_setCell_at fS11 0 _).trans (by kernel_rfl)
 have fN12 : ((W10.alloc (.cells #[.string NS, .int .i64 x, .int .i64 y] 120)).setCell ⟨W2.heap.size, 0, none⟩ (.string NS)).heap[W10.heap.size]? = some (.cells #[.string NS, .int .i64 x, .int .i64 y] 120 (0, 0)) := (Below.heap_setCell (W10.alloc (.cells #[.string NS, .int .i64 x, .int .i64 y] 120)) _ _ _ (show W10.heap.size ≠ W2.heap.size by omega)).trans fN11
 have C12 := C11.outC (b := W2.heap.size) (by omega) (by omega) 0 (.string NS)
 have K12 := K11.setB (b := W2.heap.size) (by omega) 0 (.string NS)
 have cP14_0 : ((W10.alloc (.cells #[.string NS, .int .i64 x, .int .i64 y] 120)).setCell ⟨W2.heap.size, 0, none⟩ (.string NS)).cell? ⟨w.heap.size, 0, none⟩ = some (.pointer (some ⟨B, 0, none⟩)) := (dt.cell_cells fP12 0).trans rfl
 have HH15 := hide (And.intro fP12 (And.intro fR12 (And.intro fS12 (And.intro fN12 (And.intro C12 (And.intro K12 (And.intro fP10 (And.intro fR10 (And.intro fS10 (And.intro K10 (And.intro C10 (And.intro fP11 (And.intro fR11 (And.intro fS11 (And.intro fN11 (And.intro K11 (C11)))))))))))))))))
 clear fP12 fR12 fS12 fN12 C12 K12 fP10 fR10 fS10 K10 C10 fP11 fR11 fS11 fN11 K11 C11
 go_wp2_with fail
 obtain ⟨fP12, fR12, fS12, fN12, C12, K12, fP10, fR10, fS10, K10, C10, fP11, fR11, fS11, fN11, K11, C11⟩ := unhide HH15
 clear HH15
 obtain ⟨W16, hW16⟩ : ∃ W16, W16 = ((W10.alloc (.cells #[.string NS, .int .i64 x, .int .i64 y] 120)).setCell ⟨W2.heap.size, 0, none⟩ (.string NS)) := ⟨_, rfl⟩
 rw [← hW16] at fP12 fR12 fS12 fN12 C12 K12 ⊢
 have sz16 : W10.heap.size + 1 ≤ W16.heap.size := by rw [hW16]; simp only [size_setC, dt.size_setCells, World.size_alloc]; exact Nat.le_refl _
 clear hW16 cS13_0 zS13_0 cP14_0 fP10 fR10 fS10 K10 C10 fP11 fR11 fS11 fN11 K11 C11
 refine ((unhide hw2) _ C12).mono ?_
 rintro e W17 ⟨rfl, C17, J17⟩
 have sz17 := J17.size
 have fP17 : W17.heap[w.heap.size]? = some (.cells #[.pointer (some ⟨B, 0, none⟩)] 83 (0, 0)) := (J17.block _ (by omega) (by omega)).trans fP12
 have fR17 : W17.heap[(w.heap.size + 1)]? = some (.cells #[.string ⟨#[]⟩, .string ⟨#[]⟩, .string ⟨#[]⟩, .bool false, .int .i64 0, .string ⟨#[]⟩, .bool false, .slice none 0 0, .slice none 0 0, .int .i64 0, .int .i64 0, .slice none 0 0, .int .i64 0, .int .i64 0] 72 (0, 0)) := (J17.block _ (by omega) (by omega)).trans fR12
 have fS17 : W17.heap[W2.heap.size]? = some (.cells #[.string NS, .string ⟨#[]⟩, .string ⟨#[]⟩, .bool false, .int .i64 0, .string ⟨#[]⟩, .bool false, .slice none 0 0, .slice none 0 0, .int .i64 0, .int .i64 0, .slice none 0 0, .int .i64 t.ln, .int .i64 t.co] 72 (0, 0)) := (J17.block _ (by omega) (by omega)).trans fS12
 have fN17 : W17.heap[W10.heap.size]? = some (.cells #[.string NS, .int .i64 x, .int .i64 y] 120 (0, 0)) := (J17.block _ (by omega) (by omega)).trans fN12
 have K17 := K12.trans J17
 clear fP12 fR12 fS12 fN12 K12 C12 J17
 clear hw2
 have cP18_0 : W17.cell? ⟨w.heap.size, 0, none⟩ = some (.pointer (some ⟨B, 0, none⟩)) := (dt.cell_cells fP17 0).trans rfl
 have HH19 := hide (And.intro fP17 (And.intro fR17 (And.intro fS17 (And.intro fN17 (And.intro C17 (K17))))))
 clear fP17 fR17 fS17 fN17 C17 K17
 go_wp2_with fail
 obtain ⟨fP17, fR17, fS17, fN17, C17, K17⟩ := unhide HH19
 clear HH19
 refine ((unhide hty) _ C17).mono ?_
 rintro e W20 ⟨rfl, C20, J20⟩
 have sz20 := J20.size
 have fP20 : W20.heap[w.heap.size]? = some (.cells #[.pointer (some ⟨B, 0, none⟩)] 83 (0, 0)) := (J20.block _ (by omega) (by omega)).trans fP17
 have fR20 : W20.heap[(w.heap.size + 1)]? = some (.cells #[.string ⟨#[]⟩, .string ⟨#[]⟩, .string ⟨#[]⟩, .bool false, .int .i64 0, .string ⟨#[]⟩, .bool false, .slice none 0 0, .slice none 0 0, .int .i64 0, .int .i64 0, .slice none 0 0, .int .i64 0, .int .i64 0] 72 (0, 0)) := (J20.block _ (by omega) (by omega)).trans fR17
 have fS20 : W20.heap[W2.heap.size]? = some (.cells #[.string NS, .string ⟨#[]⟩, .string ⟨#[]⟩, .bool false, .int .i64 0, .string ⟨#[]⟩, .bool false, .slice none 0 0, .slice none 0 0, .int .i64 0, .int .i64 0, .slice none 0 0, .int .i64 t.ln, .int .i64 t.co] 72 (0, 0)) := (J20.block _ (by omega) (by omega)).trans fS17
 have fN20 : W20.heap[W10.heap.size]? = some (.cells #[.string NS, .int .i64 x, .int .i64 y] 120 (0, 0)) := (J20.block _ (by omega) (by omega)).trans fN17
 have K20 := K17.trans J20
 clear fP17 fR17 fS17 fN17 K17 C17 J20 cP18_0
 clear hty
 have HT21 := hide (dt.there_cells fS20 (o := 1) (n := 2) (by first | decide | simp))
 have fP21 : (W20.setCells W2.heap.size 1 [.string tn, .string tw]).heap[w.heap.size]? = some (.cells #[.pointer (some ⟨B, 0, none⟩)] 83 (0, 0)) := (dt.heap_setCells W2.heap.size _ (show w.heap.size ≠ W2.heap.size by omega) _ 1 W20).trans fP20
 have fR21 : (W20.setCells W2.heap.size 1 [.string tn, .string tw]).heap[(w.heap.size + 1)]? = some (.cells #[.string ⟨#[]⟩, .string ⟨#[]⟩, .string ⟨#[]⟩, .bool false, .int .i64 0, .string ⟨#[]⟩, .bool false, .slice none 0 0, .slice none 0 0, .int .i64 0, .int .i64 0, .slice none 0 0, .int .i64 0, .int .i64 0] 72 (0, 0)) := (dt.heap_setCells W2.heap.size _ (show (w.heap.size + 1) ≠ W2.heap.size by omega) _ 1 W20).trans fR20
 have fS21 : (W20.setCells W2.heap.size 1 [.string tn, .string tw]).heap[W2.heap.size]? = some (.cells #[.string NS, .string tn, .string tw, .bool false, .int .i64 0, .string ⟨#[]⟩, .bool false, .slice none 0 0, .slice none 0 0, .int .i64 0, .int .i64 0, .slice none 0 0, .int .i64 t.ln, .int .i64 t.co] 72 (0, 0)) := (dt.setCells_at [.string tn, .string tw] 1 W20 _ fS20).trans (by kernel_rfl)
 have fN21 : (W20.setCells W2.heap.size 1 [.string tn, .string tw]).heap[W10.heap.size]? = some (.cells #[.string NS, .int .i64 x, .int .i64 y] 120 (0, 0)) := (dt.heap_setCells W2.heap.size _ (show W10.heap.size ≠ W2.heap.size by omega) _ 1 W20).trans fN20
 have C21 := C20.out (b := W2.heap.size) (by omega) (by omega) 1 [.string tn, .string tw]
 have K21 := K20.out (b := W2.heap.size) (by omega) 1 [.string tn, .string tw]
 have cP22_0 : (W20.setCells W2.heap.size 1 [.string tn, .string tw]).cell? ⟨w.heap.size, 0, none⟩ = some (.pointer (some ⟨B, 0, none⟩)) := (dt.cell_cells fP21 0).trans rfl
 have HH23 := hide (And.intro fP21 (And.intro fR21 (And.intro fS21 (And.intro fN21 (And.intro C21 (And.intro K21 (And.intro fP20 (And.intro fR20 (And.intro fS20 (And.intro fN20 (And.intro K20 (C20))))))))))))
 clear fP21 fR21 fS21 fN21 C21 K21 fP20 fR20 fS20 fN20 K20 C20
 go_wp2_with (first
  | refine wpList_store_mid (by rfl) 65 _ _ (by rfl) W2.heap.size 1 #[.string tn, .string tw] (by rfl) (by rfl) (unhide HT21) infoTr (dt.one_cells (cs := [.string tn, .string tw]) (by rfl)) ?_)
 obtain ⟨fP21, fR21, fS21, fN21, C21, K21, fP20, fR20, fS20, fN20, K20, C20⟩ := unhide HH23
 clear HH23
 obtain ⟨W24, hW24⟩ : ∃ W24, W24 = (W20.setCells W2.heap.size 1 [.string tn, .string tw]) := ⟨_, rfl⟩
 rw [← hW24] at fP21 fR21 fS21 fN21 C21 K21 ⊢
 have sz24 : W20.heap.size + 0 ≤ W24.heap.size := by rw [hW24]; simp only [size_setC, dt.size_setCells, World.size_alloc]; exact Nat.le_refl _
 clear hW24 cP22_0 fP20 fR20 fS20 fN20 K20 C20
 refine ((unhide hpu) _ C21).mono ?_
 rintro e W25 ⟨rfl, C25, J25⟩
 have sz25 := J25.size
 have fP25 : W25.heap[w.heap.size]? = some (.cells #[.pointer (some ⟨B, 0, none⟩)] 83 (0, 0)) := (J25.block _ (by omega) (by omega)).trans fP21
 have fR25 : W25.heap[(w.heap.size + 1)]? = some (.cells #[.string ⟨#[]⟩, .string ⟨#[]⟩, .string ⟨#[]⟩, .bool false, .int .i64 0, .string ⟨#[]⟩, .bool false, .slice none 0 0, .slice none 0 0, .int .i64 0, .int .i64 0, .slice none 0 0, .int .i64 0, .int .i64 0] 72 (0, 0)) := (J25.block _ (by omega) (by omega)).trans fR21
 have fS25 : W25.heap[W2.heap.size]? = some (.cells #[.string NS, .string tn, .string tw, .bool false, .int .i64 0, .string ⟨#[]⟩, .bool false, .slice none 0 0, .slice none 0 0, .int .i64 0, .int .i64 0, .slice none 0 0, .int .i64 t.ln, .int .i64 t.co] 72 (0, 0)) := (J25.block _ (by omega) (by omega)).trans fS21
 have fN25 : W25.heap[W10.heap.size]? = some (.cells #[.string NS, .int .i64 x, .int .i64 y] 120 (0, 0)) := (J25.block _ (by omega) (by omega)).trans fN21
 have K25 := K21.trans J25
 clear fP21 fR21 fS21 fN21 K21 C21 J25
 clear hpu
 cases IE
 ·obtain rfl : MP = M := unhide hpc
  obtain rfl : VU = MP := unhide huu
  obtain rfl : VV = zeroD := unhide hvv
  clear hpc huu hvv hli
  have cP26_0 : W25.cell? ⟨w.heap.size, 0, none⟩ = some (.pointer (some ⟨B, 0, none⟩)) := (dt.cell_cells fP25 0).trans rfl
  have HH27 := hide (And.intro fP25 (And.intro fR25 (And.intro fS25 (And.intro fN25 (And.intro C25 (K25))))))
  clear fP25 fR25 fS25 fN25 C25 K25
  go_wp2_with fail
  obtain ⟨fP25, fR25, fS25, fN25, C25, K25⟩ := unhide HH27
  clear HH27
  refine ((unhide hd) _ C25).mono ?_
  rintro e W28 ⟨sl, rfl, hbp, C28, J28⟩
  have sz28 := J28.size
  have fP28 : W28.heap[w.heap.size]? = some (.cells #[.pointer (some ⟨B, 0, none⟩)] 83 (0, 0)) := (J28.block _ (by omega) (by omega)).trans fP25
  have fR28 : W28.heap[(w.heap.size + 1)]? = some (.cells #[.string ⟨#[]⟩, .string ⟨#[]⟩, .string ⟨#[]⟩, .bool false, .int .i64 0, .string ⟨#[]⟩, .bool false, .slice none 0 0, .slice none 0 0, .int .i64 0, .int .i64 0, .slice none 0 0, .int .i64 0, .int .i64 0] 72 (0, 0)) := (J28.block _ (by omega) (by omega)).trans fR25
  have fS28 : W28.heap[W2.heap.size]? = some (.cells #[.string NS, .string tn, .string tw, .bool false, .int .i64 0, .string ⟨#[]⟩, .bool false, .slice none 0 0, .slice none 0 0, .int .i64 0, .int .i64 0, .slice none 0 0, .int .i64 t.ln, .int .i64 t.co] 72 (0, 0)) := (J28.block _ (by omega) (by omega)).trans fS25
  have fN28 : W28.heap[W10.heap.size]? = some (.cells #[.string NS, .int .i64 x, .int .i64 y] 120 (0, 0)) := (J28.block _ (by omega) (by omega)).trans fN25
  have K28 := K25.trans J28
  clear fP25 fR25 fS25 fN25 K25 C25 J28 cP26_0
  have loD := sz28
  obtain ⟨a3, n3, c3, rfl, sD28⟩ := brkD_form hbp
  clear hbp hd
  have cS30_11 : W28.cell? ⟨W2.heap.size, 11, none⟩ = some (.slice none 0 0) := (dt.cell_cells fS28 11).trans rfl
  have zS30_11 : W28.frozen? ⟨W2.heap.size, 11, none⟩ = false := dt.frozen_cells fS28 11
  have fP29 : (W28.setCell ⟨W2.heap.size, 11, none⟩ (.slice a3 n3 c3)).heap[w.heap.size]? = some (.cells #[.pointer (some ⟨B, 0, none⟩)] 83 (0, 0)) := (Below.heap_setCell W28 _ _ _ (show w.heap.size ≠ W2.heap.size by omega)).trans fP28
  have fR29 : (W28.setCell ⟨W2.heap.size, 11, none⟩ (.slice a3 n3 c3)).heap[(w.heap.size + 1)]? = some (.cells #[.string ⟨#[]⟩, .string ⟨#[]⟩, .string ⟨#[]⟩, .bool false, .int .i64 0, .string ⟨#[]⟩, .bool false, .slice none 0 0, .slice none 0 0, .int .i64 0, .int .i64 0, .slice none 0 0, .int .i64 0, .int .i64 0] 72 (0, 0)) := (Below.heap_setCell W28 _ _ _ (show (w.heap.size + 1) ≠ W2.heap.size by omega)).trans fR28
  have fS29 : (W28.setCell ⟨W2.heap.size, 11, none⟩ (.slice a3 n3 c3)).heap[W2.heap.size]? = some (.cells #[.string NS, .string tn, .string tw, .bool false, .int .i64 0, .string ⟨#[]⟩, .bool false, .slice none 0 0, .slice none 0 0, .int .i64 0, .int .i64 0, .slice a3 n3 c3, .int .i64 t.ln, .int .i64 t.co] 72 (0, 0)) := (dt.heap_setCell_at fS28 11 _).trans (by kernel_rfl)
  have fN29 : (W28.setCell ⟨W2.heap.size, 11, none⟩ (.slice a3 n3 c3)).heap[W10.heap.size]? = some (.cells #[.string NS, .int .i64 x, .int .i64 y] 120 (0, 0)) := (Below.heap_setCell W28 _ _ _ (show W10.heap.size ≠ W2.heap.size by omega)).trans fN28
  have C29 := C28.outC (b := W2.heap.size) (by omega) (by omega) 11 (.slice a3 n3 c3)
  have K29 := K28.setB (b := W2.heap.size) (by omega) 11 (.slice a3 n3 c3)
  have sD29 := sD28.outC (b := W2.heap.size) (by omega) 11 (.slice a3 n3 c3)
  have cS31_0 : (W28.setCell ⟨W2.heap.size, 11, none⟩ (.slice a3 n3 c3)).cell? ⟨W2.heap.size, 0, none⟩ = some (.string NS) := (dt.cell_cells fS29 0).trans rfl
  have cS31_1 : (W28.setCell ⟨W2.heap.size, 11, none⟩ (.slice a3 n3 c3)).cell? ⟨W2.heap.size, 1, none⟩ = some (.string tn) := (dt.cell_cells fS29 1).trans rfl
  have cS31_2 : (W28.setCell ⟨W2.heap.size, 11, none⟩ (.slice a3 n3 c3)).cell? ⟨W2.heap.size, 2, none⟩ = some (.string tw) := (dt.cell_cells fS29 2).trans rfl
  have cS31_3 : (W28.setCell ⟨W2.heap.size, 11, none⟩ (.slice a3 n3 c3)).cell? ⟨W2.heap.size, 3, none⟩ = some (.bool false) := (dt.cell_cells fS29 3).trans rfl
  have cS31_4 : (W28.setCell ⟨W2.heap.size, 11, none⟩ (.slice a3 n3 c3)).cell? ⟨W2.heap.size, 4, none⟩ = some (.int .i64 0) := (dt.cell_cells fS29 4).trans rfl
  have cS31_5 : (W28.setCell ⟨W2.heap.size, 11, none⟩ (.slice a3 n3 c3)).cell? ⟨W2.heap.size, 5, none⟩ = some (.string ⟨#[]⟩) := (dt.cell_cells fS29 5).trans rfl
  have cS31_6 : (W28.setCell ⟨W2.heap.size, 11, none⟩ (.slice a3 n3 c3)).cell? ⟨W2.heap.size, 6, none⟩ = some (.bool false) := (dt.cell_cells fS29 6).trans rfl
  have cS31_7 : (W28.setCell ⟨W2.heap.size, 11, none⟩ (.slice a3 n3 c3)).cell? ⟨W2.heap.size, 7, none⟩ = some (.slice none 0 0) := (dt.cell_cells fS29 7).trans rfl
  have cS31_8 : (W28.setCell ⟨W2.heap.size, 11, none⟩ (.slice a3 n3 c3)).cell? ⟨W2.heap.size, 8, none⟩ = some (.slice none 0 0) := (dt.cell_cells fS29 8).trans rfl
  have cS31_9 : (W28.setCell ⟨W2.heap.size, 11, none⟩ (.slice a3 n3 c3)).cell? ⟨W2.heap.size, 9, none⟩ = some (.int .i64 0) := (dt.cell_cells fS29 9).trans rfl
  have cS31_10 : (W28.setCell ⟨W2.heap.size, 11, none⟩ (.slice a3 n3 c3)).cell? ⟨W2.heap.size, 10, none⟩ = some (.int .i64 0) := (dt.cell_cells fS29 10).trans rfl
  have cS31_11 : (W28.setCell ⟨W2.heap.size, 11, none⟩ (.slice a3 n3 c3)).cell? ⟨W2.heap.size, 11, none⟩ = some (.slice a3 n3 c3) := (dt.cell_cells fS29 11).trans rfl
  have cS31_12 : (W28.setCell ⟨W2.heap.size, 11, none⟩ (.slice a3 n3 c3)).cell? ⟨W2.heap.size, 12, none⟩ = some (.int .i64 t.ln) := (dt.cell_cells fS29 12).trans rfl
  have cS31_13 : (W28.setCell ⟨W2.heap.size, 11, none⟩ (.slice a3 n3 c3)).cell? ⟨W2.heap.size, 13, none⟩ = some (.int .i64 t.co) := (dt.cell_cells fS29 13).trans rfl
  have HT := hide (dt.there_cells fR29 (o := 0) (n := 14) (by decide))
  have HF := hide (And.intro C29 (And.intro K29 sD29))
  clear C29 K29 sD29
  go_wp2_with (first
   | refine wpList_store_mid (by rfl) 72 _ _ (by rfl) (w.heap.size + 1) 0 (varCs NS tn tw false 0 em false none 0 0 none 0 0 0 0 a3 n3 c3 t.ln t.co).toArray (by rfl) (by rfl) (unhide HT) infoVar (dt.one_cells (cs := varCs NS tn tw false 0 em false none 0 0 none 0 0 0 0 a3 n3 c3 t.ln t.co) (by rfl)) ?_)
  refine bodyPost_ret (rgn.result_row_tmp rfl _ _ (w.heap.size + 1) 0 (varCs NS tn tw false 0 em false none 0 0 none 0 0 0 0 a3 n3 c3 t.ln t.co) _ rfl (World.rangeAt_setCells_same _ _ _ _ (unhide HT)) Tryz.underlying72 rfl infoVar) rfl ?_
  obtain ⟨hC, hK, hD⟩ := unhide HF
  rw [unhide HV]
  cases r with
  | none =>
   exact ⟨_, [], rfl, ⟨⟨_, _, _, _, _, _, _, _, _, _, _, _, _, _, _, _, _, _, _, _, rfl⟩, fun d e => by cases e⟩, hC.out (by omega) (by omega) _ _, hK.out (by omega) _ _⟩
  | some ds =>
   obtain ⟨F2, hD⟩ := hD ds rfl
   have hD2 := hD.out (b := (w.heap.size + 1)) (.inl (by omega)) 0 (varCs NS tn tw false 0 em false none 0 0 none 0 0 0 0 a3 n3 c3 t.ln t.co)
   have hV2 := fun W => show Ho W zeroD (leafC 0 em false 0 0) [] w.heap.size 0 from ⟨leaf_ow W 0 em false 0 0, List.nodup_nil, by simp, Nat.zero_le _⟩
   obtain ⟨F', p1, p2, p3⟩ := var_ow (hV2 _) hD2 (by omega) NS tn tw false t.ln t.co w.heap.size (by omega) (by omega)
   exact ⟨_, F', rfl, ⟨⟨_, _, _, _, _, _, _, _, _, _, _, _, _, _, _, _, _, _, _, _, rfl⟩, fun d e => by obtain rfl := Option.some.inj e; exact ⟨p1, p2, p3⟩⟩, hC.out (by omega) (by omega) _ _, hK.out (by omega) _ _⟩
 ·obtain rfl : MP = MT := unhide hpc
  obtain rfl : VU = Q := unhide huu
  obtain rfl : VV = lv := unhide hvv
  clear hpc huu hvv
  have cS27_3 : W25.cell? ⟨W2.heap.size, 3, none⟩ = some (.bool false) := (dt.cell_cells fS25 3).trans rfl
  have zS27_3 : W25.frozen? ⟨W2.heap.size, 3, none⟩ = false := dt.frozen_cells fS25 3
  have fP26 : (W25.setCell ⟨W2.heap.size, 3, none⟩ (.bool true)).heap[w.heap.size]? = some (.cells #[.pointer (some ⟨B, 0, none⟩)] 83 (0, 0)) := (Below.heap_setCell W25 _ _ _ (show w.heap.size ≠ W2.heap.size by omega)).trans fP25
  have fR26 : (W25.setCell ⟨W2.heap.size, 3, none⟩ (.bool true)).heap[(w.heap.size + 1)]? = some (.cells #[.string ⟨#[]⟩, .string ⟨#[]⟩, .string ⟨#[]⟩, .bool false, .int .i64 0, .string ⟨#[]⟩, .bool false, .slice none 0 0, .slice none 0 0, .int .i64 0, .int .i64 0, .slice none 0 0, .int .i64 0, .int .i64 0] 72 (0, 0)) := (Below.heap_setCell W25 _ _ _ (show (w.heap.size + 1) ≠ W2.heap.size by omega)).trans fR25
  have fS26 : (W25.setCell ⟨W2.heap.size, 3, none⟩ (.bool true)).heap[W2.heap.size]? = some (.cells #[.string NS, .string tn, .string tw, .bool true, .int .i64 0, .string ⟨#[]⟩, .bool false, .slice none 0 0, .slice none 0 0, .int .i64 0, .int .i64 0, .slice none 0 0, .int .i64 t.ln, .int .i64 t.co] 72 (0, 0)) := (dt.heap_setCell_at fS25 3 _).trans (by kernel_rfl)
  have fN26 : (W25.setCell ⟨W2.heap.size, 3, none⟩ (.bool true)).heap[W10.heap.size]? = some (.cells #[.string NS, .int .i64 x, .int .i64 y] 120 (0, 0)) := (Below.heap_setCell W25 _ _ _ (show W10.heap.size ≠ W2.heap.size by omega)).trans fN25
  have C26 := C25.outC (b := W2.heap.size) (by omega) (by omega) 3 (.bool true)
  have K26 := K25.setB (b := W2.heap.size) (by omega) 3 (.bool true)
  have cP28_0 : (W25.setCell ⟨W2.heap.size, 3, none⟩ (.bool true)).cell? ⟨w.heap.size, 0, none⟩ = some (.pointer (some ⟨B, 0, none⟩)) := (dt.cell_cells fP26 0).trans rfl
  have HH29 := hide (And.intro fP26 (And.intro fR26 (And.intro fS26 (And.intro fN26 (And.intro C26 (And.intro K26 (And.intro fP25 (And.intro fR25 (And.intro fS25 (And.intro fN25 (And.intro K25 (C25))))))))))))
  clear fP26 fR26 fS26 fN26 C26 K26 fP25 fR25 fS25 fN25 K25 C25
  go_wp2_with fail
  obtain ⟨fP26, fR26, fS26, fN26, C26, K26, fP25, fR25, fS25, fN25, K25, C25⟩ := unhide HH29
  clear HH29
  obtain ⟨W30, hW30⟩ : ∃ W30, W30 = (W25.setCell ⟨W2.heap.size, 3, none⟩ (.bool true)) := ⟨_, rfl⟩
  rw [← hW30] at fP26 fR26 fS26 fN26 C26 K26 ⊢
  have sz30 : W25.heap.size + 0 ≤ W30.heap.size := by rw [hW30]; simp only [size_setC, dt.size_setCells, World.size_alloc]; exact Nat.le_refl _
  clear hW30 cS27_3 zS27_3 cP28_0 fP25 fR25 fS25 fN25 K25 C25
  refine ((unhide hli) (by first | rfl | trivial) _ C26).mono ?_
  rintro e W31 ⟨cs, F, rfl, hpo, C31, J31⟩
  have sz31 := J31.size
  have fP31 : W31.heap[w.heap.size]? = some (.cells #[.pointer (some ⟨B, 0, none⟩)] 83 (0, 0)) := (J31.block _ (by omega) (by omega)).trans fP26
  have fR31 : W31.heap[(w.heap.size + 1)]? = some (.cells #[.string ⟨#[]⟩, .string ⟨#[]⟩, .string ⟨#[]⟩, .bool false, .int .i64 0, .string ⟨#[]⟩, .bool false, .slice none 0 0, .slice none 0 0, .int .i64 0, .int .i64 0, .slice none 0 0, .int .i64 0, .int .i64 0] 72 (0, 0)) := (J31.block _ (by omega) (by omega)).trans fR26
  have fS31 : W31.heap[W2.heap.size]? = some (.cells #[.string NS, .string tn, .string tw, .bool true, .int .i64 0, .string ⟨#[]⟩, .bool false, .slice none 0 0, .slice none 0 0, .int .i64 0, .int .i64 0, .slice none 0 0, .int .i64 t.ln, .int .i64 t.co] 72 (0, 0)) := (J31.block _ (by omega) (by omega)).trans fS26
  have fN31 : W31.heap[W10.heap.size]? = some (.cells #[.string NS, .int .i64 x, .int .i64 y] 120 (0, 0)) := (J31.block _ (by omega) (by omega)).trans fN26
  have K31 := K26.trans J31
  clear fP26 fR26 fS26 fN26 K26 C26 J31
  obtain ⟨k, tx, bl, a1, n1, c1, a2, n2, c2, l1, o1, rfl⟩ := hpo.shape
  have loV := sz31
  have sV31 : Ho _ VV [.int .i64 k, .string tx, .bool bl, .slice a1 n1 c1, .slice a2 n2 c2, .int .i64 l1, .int .i64 o1] F _ _ := ⟨hpo.own, hpo.nodup, hpo.rng, Nat.le_refl _⟩
  clear hpo hli
  have HT32 := hide (dt.there_cells fS31 (o := 4) (n := 7) (by first | decide | simp))
  have fP32 : (W31.setCells W2.heap.size 4 [.int .i64 k, .string tx, .bool bl, .slice a1 n1 c1, .slice a2 n2 c2, .int .i64 l1, .int .i64 o1]).heap[w.heap.size]? = some (.cells #[.pointer (some ⟨B, 0, none⟩)] 83 (0, 0)) := (dt.heap_setCells W2.heap.size _ (show w.heap.size ≠ W2.heap.size by omega) _ 4 W31).trans fP31
  have fR32 : (W31.setCells W2.heap.size 4 [.int .i64 k, .string tx, .bool bl, .slice a1 n1 c1, .slice a2 n2 c2, .int .i64 l1, .int .i64 o1]).heap[(w.heap.size + 1)]? = some (.cells #[.string ⟨#[]⟩, .string ⟨#[]⟩, .string ⟨#[]⟩, .bool false, .int .i64 0, .string ⟨#[]⟩, .bool false, .slice none 0 0, .slice none 0 0, .int .i64 0, .int .i64 0, .slice none 0 0, .int .i64 0, .int .i64 0] 72 (0, 0)) := (dt.heap_setCells W2.heap.size _ (show (w.heap.size + 1) ≠ W2.heap.size by omega) _ 4 W31).trans fR31
  have fS32 : (W31.setCells W2.heap.size 4 [.int .i64 k, .string tx, .bool bl, .slice a1 n1 c1, .slice a2 n2 c2, .int .i64 l1, .int .i64 o1]).heap[W2.heap.size]? = some (.cells #[.string NS, .string tn, .string tw, .bool true, .int .i64 k, .string tx, .bool bl, .slice a1 n1 c1, .slice a2 n2 c2, .int .i64 l1, .int .i64 o1, .slice none 0 0, .int .i64 t.ln, .int .i64 t.co] 72 (0, 0)) := (dt.setCells_at [.int .i64 k, .string tx, .bool bl, .slice a1 n1 c1, .slice a2 n2 c2, .int .i64 l1, .int .i64 o1] 4 W31 _ fS31).trans (by kernel_rfl)
  have fN32 : (W31.setCells W2.heap.size 4 [.int .i64 k, .string tx, .bool bl, .slice a1 n1 c1, .slice a2 n2 c2, .int .i64 l1, .int .i64 o1]).heap[W10.heap.size]? = some (.cells #[.string NS, .int .i64 x, .int .i64 y] 120 (0, 0)) := (dt.heap_setCells W2.heap.size _ (show W10.heap.size ≠ W2.heap.size by omega) _ 4 W31).trans fN31
  have C32 := C31.out (b := W2.heap.size) (by omega) (by omega) 4 [.int .i64 k, .string tx, .bool bl, .slice a1 n1 c1, .slice a2 n2 c2, .int .i64 l1, .int .i64 o1]
  have K32 := K31.out (b := W2.heap.size) (by omega) 4 [.int .i64 k, .string tx, .bool bl, .slice a1 n1 c1, .slice a2 n2 c2, .int .i64 l1, .int .i64 o1]
  have sV32 := sV31.out (b := W2.heap.size) (by omega) 4 [.int .i64 k, .string tx, .bool bl, .slice a1 n1 c1, .slice a2 n2 c2, .int .i64 l1, .int .i64 o1]
  obtain ⟨W33, hW33⟩ : ∃ W33, W33 = (W31.setCells W2.heap.size 4 [.int .i64 k, .string tx, .bool bl, .slice a1 n1 c1, .slice a2 n2 c2, .int .i64 l1, .int .i64 o1]) := ⟨_, rfl⟩
  rw [← hW33] at fP32 fR32 fS32 fN32 sV32 C32 K32
  have sz33 : W31.heap.size + 0 ≤ W33.heap.size := by rw [hW33]; simp only [size_setC, dt.size_setCells, World.size_alloc]; exact Nat.le_refl _
  have GW33 := hide hW33
  clear hW33 fP31 fR31 fS31 fN31 sV31 K31 C31
  have cP34_0 : W33.cell? ⟨w.heap.size, 0, none⟩ = some (.pointer (some ⟨B, 0, none⟩)) := (dt.cell_cells fP32 0).trans rfl
  have HH35 := hide (And.intro fP32 (And.intro fR32 (And.intro fS32 (And.intro fN32 (And.intro sV32 (And.intro C32 (K32)))))))
  clear fP32 fR32 fS32 fN32 sV32 C32 K32
  go_wp2_with (first
   | (refine wpList_store_mid (by rfl) 70 _ _ (by rfl) W2.heap.size 4 #[.int .i64 k, .string tx, .bool bl, .slice a1 n1 c1, .slice a2 n2 c2, .int .i64 l1, .int .i64 o1] (by rfl) (by rfl) (unhide HT32) infoLi (dt.one_cells (cs := [.int .i64 k, .string tx, .bool bl, .slice a1 n1 c1, .slice a2 n2 c2, .int .i64 l1, .int .i64 o1]) (by rfl)) ?_; rw [show W31.setCells W2.heap.size 4 (#[.int .i64 k, .string tx, .bool bl, .slice a1 n1 c1, .slice a2 n2 c2, .int .i64 l1, .int .i64 o1] : Array Value).toList = W33 from (unhide GW33).symm]))
  obtain ⟨fP32, fR32, fS32, fN32, sV32, C32, K32⟩ := unhide HH35
  clear HH35
  clear GW33
  refine ((unhide hd) _ C32).mono ?_
  rintro e W36 ⟨sl, rfl, hbp, C36, J36⟩
  have sz36 := J36.size
  have fP36 : W36.heap[w.heap.size]? = some (.cells #[.pointer (some ⟨B, 0, none⟩)] 83 (0, 0)) := (J36.block _ (by omega) (by omega)).trans fP32
  have fR36 : W36.heap[(w.heap.size + 1)]? = some (.cells #[.string ⟨#[]⟩, .string ⟨#[]⟩, .string ⟨#[]⟩, .bool false, .int .i64 0, .string ⟨#[]⟩, .bool false, .slice none 0 0, .slice none 0 0, .int .i64 0, .int .i64 0, .slice none 0 0, .int .i64 0, .int .i64 0] 72 (0, 0)) := (J36.block _ (by omega) (by omega)).trans fR32
  have fS36 : W36.heap[W2.heap.size]? = some (.cells #[.string NS, .string tn, .string tw, .bool true, .int .i64 k, .string tx, .bool bl, .slice a1 n1 c1, .slice a2 n2 c2, .int .i64 l1, .int .i64 o1, .slice none 0 0, .int .i64 t.ln, .int .i64 t.co] 72 (0, 0)) := (J36.block _ (by omega) (by omega)).trans fS32
  have fN36 : W36.heap[W10.heap.size]? = some (.cells #[.string NS, .int .i64 x, .int .i64 y] 120 (0, 0)) := (J36.block _ (by omega) (by omega)).trans fN32
  have sV36 := sV32.kp J36 (by omega)
  have K36 := K32.trans J36
  clear fP32 fR32 fS32 fN32 sV32 K32 C32 J36 cP34_0
  have loD := sz36
  obtain ⟨a3, n3, c3, rfl, sD36⟩ := brkD_form hbp
  clear hbp hd
  have cS38_11 : W36.cell? ⟨W2.heap.size, 11, none⟩ = some (.slice none 0 0) := (dt.cell_cells fS36 11).trans rfl
  have zS38_11 : W36.frozen? ⟨W2.heap.size, 11, none⟩ = false := dt.frozen_cells fS36 11
  have fP37 : (W36.setCell ⟨W2.heap.size, 11, none⟩ (.slice a3 n3 c3)).heap[w.heap.size]? = some (.cells #[.pointer (some ⟨B, 0, none⟩)] 83 (0, 0)) := (Below.heap_setCell W36 _ _ _ (show w.heap.size ≠ W2.heap.size by omega)).trans fP36
  have fR37 : (W36.setCell ⟨W2.heap.size, 11, none⟩ (.slice a3 n3 c3)).heap[(w.heap.size + 1)]? = some (.cells #[.string ⟨#[]⟩, .string ⟨#[]⟩, .string ⟨#[]⟩, .bool false, .int .i64 0, .string ⟨#[]⟩, .bool false, .slice none 0 0, .slice none 0 0, .int .i64 0, .int .i64 0, .slice none 0 0, .int .i64 0, .int .i64 0] 72 (0, 0)) := (Below.heap_setCell W36 _ _ _ (show (w.heap.size + 1) ≠ W2.heap.size by omega)).trans fR36
  have fS37 : (W36.setCell ⟨W2.heap.size, 11, none⟩ (.slice a3 n3 c3)).heap[W2.heap.size]? = some (.cells #[.string NS, .string tn, .string tw, .bool true, .int .i64 k, .string tx, .bool bl, .slice a1 n1 c1, .slice a2 n2 c2, .int .i64 l1, .int .i64 o1, .slice a3 n3 c3, .int .i64 t.ln, .int .i64 t.co] 72 (0, 0)) := (dt.heap_setCell_at fS36 11 _).trans (by kernel_rfl)
  have fN37 : (W36.setCell ⟨W2.heap.size, 11, none⟩ (.slice a3 n3 c3)).heap[W10.heap.size]? = some (.cells #[.string NS, .int .i64 x, .int .i64 y] 120 (0, 0)) := (Below.heap_setCell W36 _ _ _ (show W10.heap.size ≠ W2.heap.size by omega)).trans fN36
  have C37 := C36.outC (b := W2.heap.size) (by omega) (by omega) 11 (.slice a3 n3 c3)
  have K37 := K36.setB (b := W2.heap.size) (by omega) 11 (.slice a3 n3 c3)
  have sV37 := sV36.outC (b := W2.heap.size) (by omega) 11 (.slice a3 n3 c3)
  have sD37 := sD36.outC (b := W2.heap.size) (by omega) 11 (.slice a3 n3 c3)
  have cS39_0 : (W36.setCell ⟨W2.heap.size, 11, none⟩ (.slice a3 n3 c3)).cell? ⟨W2.heap.size, 0, none⟩ = some (.string NS) := (dt.cell_cells fS37 0).trans rfl
  have cS39_1 : (W36.setCell ⟨W2.heap.size, 11, none⟩ (.slice a3 n3 c3)).cell? ⟨W2.heap.size, 1, none⟩ = some (.string tn) := (dt.cell_cells fS37 1).trans rfl
  have cS39_2 : (W36.setCell ⟨W2.heap.size, 11, none⟩ (.slice a3 n3 c3)).cell? ⟨W2.heap.size, 2, none⟩ = some (.string tw) := (dt.cell_cells fS37 2).trans rfl
  have cS39_3 : (W36.setCell ⟨W2.heap.size, 11, none⟩ (.slice a3 n3 c3)).cell? ⟨W2.heap.size, 3, none⟩ = some (.bool true) := (dt.cell_cells fS37 3).trans rfl
  have cS39_4 : (W36.setCell ⟨W2.heap.size, 11, none⟩ (.slice a3 n3 c3)).cell? ⟨W2.heap.size, 4, none⟩ = some (.int .i64 k) := (dt.cell_cells fS37 4).trans rfl
  have cS39_5 : (W36.setCell ⟨W2.heap.size, 11, none⟩ (.slice a3 n3 c3)).cell? ⟨W2.heap.size, 5, none⟩ = some (.string tx) := (dt.cell_cells fS37 5).trans rfl
  have cS39_6 : (W36.setCell ⟨W2.heap.size, 11, none⟩ (.slice a3 n3 c3)).cell? ⟨W2.heap.size, 6, none⟩ = some (.bool bl) := (dt.cell_cells fS37 6).trans rfl
  have cS39_7 : (W36.setCell ⟨W2.heap.size, 11, none⟩ (.slice a3 n3 c3)).cell? ⟨W2.heap.size, 7, none⟩ = some (.slice a1 n1 c1) := (dt.cell_cells fS37 7).trans rfl
  have cS39_8 : (W36.setCell ⟨W2.heap.size, 11, none⟩ (.slice a3 n3 c3)).cell? ⟨W2.heap.size, 8, none⟩ = some (.slice a2 n2 c2) := (dt.cell_cells fS37 8).trans rfl
  have cS39_9 : (W36.setCell ⟨W2.heap.size, 11, none⟩ (.slice a3 n3 c3)).cell? ⟨W2.heap.size, 9, none⟩ = some (.int .i64 l1) := (dt.cell_cells fS37 9).trans rfl
  have cS39_10 : (W36.setCell ⟨W2.heap.size, 11, none⟩ (.slice a3 n3 c3)).cell? ⟨W2.heap.size, 10, none⟩ = some (.int .i64 o1) := (dt.cell_cells fS37 10).trans rfl
  have cS39_11 : (W36.setCell ⟨W2.heap.size, 11, none⟩ (.slice a3 n3 c3)).cell? ⟨W2.heap.size, 11, none⟩ = some (.slice a3 n3 c3) := (dt.cell_cells fS37 11).trans rfl
  have cS39_12 : (W36.setCell ⟨W2.heap.size, 11, none⟩ (.slice a3 n3 c3)).cell? ⟨W2.heap.size, 12, none⟩ = some (.int .i64 t.ln) := (dt.cell_cells fS37 12).trans rfl
  have cS39_13 : (W36.setCell ⟨W2.heap.size, 11, none⟩ (.slice a3 n3 c3)).cell? ⟨W2.heap.size, 13, none⟩ = some (.int .i64 t.co) := (dt.cell_cells fS37 13).trans rfl
  have HT := hide (dt.there_cells fR37 (o := 0) (n := 14) (by decide))
  have HF := hide (And.intro C37 (And.intro K37 (And.intro sD37 sV37)))
  clear C37 K37 sV37 sD37
  go_wp2_with (first
   | refine wpList_store_mid (by rfl) 72 _ _ (by rfl) (w.heap.size + 1) 0 (varCs NS tn tw true k tx bl a1 n1 c1 a2 n2 c2 l1 o1 a3 n3 c3 t.ln t.co).toArray (by rfl) (by rfl) (unhide HT) infoVar (dt.one_cells (cs := varCs NS tn tw true k tx bl a1 n1 c1 a2 n2 c2 l1 o1 a3 n3 c3 t.ln t.co) (by rfl)) ?_)
  refine bodyPost_ret (rgn.result_row_tmp rfl _ _ (w.heap.size + 1) 0 (varCs NS tn tw true k tx bl a1 n1 c1 a2 n2 c2 l1 o1 a3 n3 c3 t.ln t.co) _ rfl (World.rangeAt_setCells_same _ _ _ _ (unhide HT)) Tryz.underlying72 rfl infoVar) rfl ?_
  obtain ⟨hC, hK, hD, hV⟩ := unhide HF
  rw [unhide HV]
  cases r with
  | none =>
   exact ⟨_, [], rfl, ⟨⟨_, _, _, _, _, _, _, _, _, _, _, _, _, _, _, _, _, _, _, _, rfl⟩, fun d e => by cases e⟩, hC.out (by omega) (by omega) _ _, hK.out (by omega) _ _⟩
  | some ds =>
   obtain ⟨F2, hD⟩ := hD ds rfl
   have hD2 := hD.out (b := (w.heap.size + 1)) (.inl (by omega)) 0 (varCs NS tn tw true k tx bl a1 n1 c1 a2 n2 c2 l1 o1 a3 n3 c3 t.ln t.co)
   have hV2 := hV.out (b := (w.heap.size + 1)) (.inl (by omega)) 0 (varCs NS tn tw true k tx bl a1 n1 c1 a2 n2 c2 l1 o1 a3 n3 c3 t.ln t.co)
   obtain ⟨F', p1, p2, p3⟩ := var_ow hV2 hD2 (by omega) NS tn tw true t.ln t.co w.heap.size (by omega) (by omega)
   exact ⟨_, F', rfl, ⟨⟨_, _, _, _, _, _, _, _, _, _, _, _, _, _, _, _, _, _, _, _, rfl⟩, fun d e => by obtain rfl := Option.some.inj e; exact ⟨p1, p2, p3⟩⟩, hC.out (by omega) (by omega) _ _, hK.out (by omega) _ _⟩
theorem infoVz : ∃ i z, Tryz.prog.info? 72 = some i ∧ i.zero = some z ∧ i.size = 14 ∧ i.bytes = 192 ∧ z.cells.size = 14 := by
 have hin : (Tryz.prog.info? 72).map (fun i => (i.bytes, i.size, i.zero.map (·.cells.size))) = some (192, 14, some 14) := by kernel_rfl
 cases hq : Tryz.prog.info? 72 with
 | none => simp [hq] at hin
 | some i =>
  simp [hq] at hin
  obtain ⟨h1, h2, z, hz, h3⟩ := hin
  exact ⟨i, z, rfl, hz, h2, h1, h3⟩
set_option maxRecDepth 4000 in
set_option maxHeartbeats 8000000 in
theorem brkV_ok (E : Cu → Option Dt × Cu) (c : Cu) (left right : ByteArray) (hc0 : c.Ok) (hlen : c.ts.length ≤ 4294967296) (hG : Goes E) (hE : ∀ cc : Cu, cc.Ok → cc.ts = c.ts → c.ix < cc.ix → VarFn E cc) (B p : Nat) (w : World) (h : CurAt w B p c) :
  Calls Tryz.prog 73 #[par B, .string left, .string right, .func (.func 74) #[par B] #[]] w fun e w' => ∃ sl, e = .returned (.tuple #[sl, .bool (brk E left right 1 c).1.isSome]) ∧ BrkPV (brk E left right 1 c).1 w.heap.size w' sl ∧ CurAt w' B p (brk E left right 1 c).2 ∧ Kp B w w' := by
 have en : ∀ args w, (callFunc 74 args).run Tryz.prog w = .ok (.enter 74 args) w := fun _ _ => rfl
 have hB := h.lt
 have hp := h.plt
 obtain ⟨w0, hw0⟩ : ∃ w0, w0 = w.alloc (.cells #[.pointer (some ⟨B, 0, none⟩)] 83) := ⟨_, rfl⟩
 have b0 : Below w.heap.size w w0 := by rw [hw0]; exact (Below.refl _ _).alloc (Nat.le_refl _) _
 have z0 : w.heap.size + 1 ≤ w0.heap.size := by rw [hw0]; simp
 have p0 : w0.heap[w.heap.size]? = some (.cells #[.pointer (some ⟨B, 0, none⟩)] 83 (0, 0)) := by rw [hw0]; exact heap_alloc_new _ _
 have ho := hide (open_ok B p c left w0 (h.below b0))
 have hPc := hide (fun (W : World) (hk : W.heap[w.heap.size]? = some (.cells #[.pointer (some ⟨B, 0, none⟩)] 83 (0, 0))) => show W.cell? ⟨w.heap.size, 0, none⟩ = some (.pointer (some ⟨B, 0, none⟩)) from (dt.cell_cells hk 0).trans rfl)
 cases hO : c.opB left
 ·have hs := hide (show brk E left right 1 c = (none, c.opn left) from by unfold brk; rw [hO]; rfl)
  rw [hO] at ho
  clear h hE
  unfold ptr at ho
  unfold par
  go_enter Tryz.func73, Tryz.ntmps73
  go_wp2_with fail
  rw [← hw0]
  refine (unhide ho).mono ?_
  rintro e w1 ⟨rfl, hc1, hk1⟩
  clear ho
  go_wp2_with fail
  go_ret2
  rw [unhide hs]
  exact ⟨_, rfl, rfl, hc1, (Kp.of b0).trans hk1⟩
 ·have hst := opn_stp hc0 left
  have hoi := opn_ix hO
  obtain ⟨R, hR⟩ : ∃ R, R = brkF E right 1 c.ts.length [] (c.opn left) := ⟨_, rfl⟩
  have hs := hide (show brk E left right 1 c = R from by unfold brk; rw [hO, hR]; rfl)
  rw [hO] at ho
  have HR := hide hR.symm
  clear h hR hO
  have hcl := hide (fun W (cc : Cu) (hc : CurAt W B p cc) => close_ok B p cc right W hc)
  have hip := hide (fun W (cc : Cu) (hc : CurAt W B p cc) => isPunct_ok B p cc right W hc)
  have hEE := hide (fun (cc : Cu) (h1 : cc.Ok) (h2 : cc.ts = c.ts) (h3 : c.ix < cc.ix) => hE cc h1 h2 h3 B p)
  clear hE
  unfold ptr at ho hcl hip
  unfold par at hEE ⊢
  go_enter Tryz.func73, Tryz.ntmps73
  go_wp2_with fail
  rw [← hw0]
  refine (unhide ho).mono ?_
  rintro e w1 ⟨rfl, hc1, hk1⟩
  have hz1 := hk1.size
  have p1 := (hk1.block w.heap.size (by omega) (by omega)).trans p0
  have K1 := (Kp.of b0).trans hk1
  clear ho hw0 p0 b0 hk1
  go_wp2_with fail
  go_loopg [10] c.ts.length (fun g sl wr => ∃ (l : List Dt) (cc : Cu) (Gs : List Nat), Hid (brkF E right 1 g l cc = R) ∧ CurAt wr B p cc ∧ Hid (Grow 72 14 wr (w.heap.size + 1) l sl Gs) ∧ Kp B w wr ∧ Hid (cc.ts = c.ts) ∧ c.ts.length ≤ g + cc.ix ∧ l.length + 1 + c.ix ≤ cc.ix ∧ Hid (wr.heap[w.heap.size]? = some (.cells #[.pointer (some ⟨B, 0, none⟩)] 83 (0, 0))) ∧ w.heap.size + 1 ≤ wr.heap.size)
  case atStart => exact ⟨[], c.opn left, [], HR, hc1, hide Grow.nil, K1, hide hst.ts, Nat.le_add_right _ _, by rw [hoi]; simp; omega, hide p1, by omega⟩
  case round =>
   obtain ⟨l, cc, Gs, hrun, hcc, hgr, hkr, hts, hfu, hll, hpr, hzr⟩ := hrel
   have hixl := hcc.ok.lt
   rw [unhide hts] at hixl
   obtain ⟨al, cl, hsl⟩ := (unhide hgr).form
   subst hsl
   have cP := (unhide hPc) wr (unhide hpr)
   obtain ⟨g', rfl⟩ : ∃ g', gk = g' + 1 := ⟨gk - 1, by omega⟩
   by_cases hl0 : l.length = 0
   ·obtain rfl : l = [] := List.eq_nil_of_length_eq_zero hl0
    obtain ⟨w2, hw2⟩ : ∃ w2, w2 = wr := ⟨_, rfl⟩
    subst hw2
    have b2 := Below.refl w2.heap.size w2
    have hc2 := hcc
    have hgr2 := hgr
    have hk2 := hkr
    have hp2 := hpr
    clear hl0
    have hrun2 := hide (show (match (E cc).1 with | none => (none, (E cc).2) | some d => brkF E right 1 g' ([] ++ [d]) (E cc).2) = R from by
     have e := unhide hrun
     rw [brkF, if_pos (.inl (by decide))] at e
     exact e)
    have hgo := hG cc hcc.ok
    have hcall := hide ((unhide hEE) cc hcc.ok (unhide hts) (by omega) w2 hc2)
    go_wp2_with fail
    refine (unhide hcall).mono ?_
    rintro e w3 ⟨cs, F, rfl, hpo, hc3, hk3⟩
    obtain ⟨U, hU⟩ : ∃ U, U = E cc := ⟨_, rfl⟩
    rw [← hU] at hrun2 hgo hpo hc3 ⊢
    obtain ⟨r, C⟩ := U
    obtain ⟨z1, z2, z3, z4, z5, z6, z7, z8, z9, u1, u2, u3, u4, u5, u6, v1, v2, v3, v4, v5, hcs⟩ := hpo.shape
    unfold varCs at hcs
    subst hcs
    clear hcall hU hrun
    have HP := hide hpo
    clear hpo
    have HC3 := hide hc3
    have HK3 := hide hk3
    have hz3 := hk3.size
    have hp3 := hide ((hk3.block w.heap.size (by omega) (by omega)).trans (unhide hp2))
    cases r with
    | none =>
     have hrun3 := hide (show (none, C) = R from unhide hrun2)
     go_wp2_with fail
     go_ret2
     rw [unhide hs, ← unhide hrun3]
     exact ⟨_, rfl, rfl, (unhide HC3).below ((Below.refl _ _).alloc (Nat.le_refl _) _), (hk2.trans (unhide HK3)).trans (Kp.of ((Below.refl _ _).alloc (Nat.le_refl _) _))⟩
    | some d =>
     have hrun3 := hide (show brkF E right 1 g' ([] ++ [d]) C = R from unhide hrun2)
     have hix3 : cc.ix < C.ix := hgo.2 rfl
     have hts3 := hgo.1.ts
     have hlt3 := hgo.1.ok.lt
     rw [hts3, unhide hts] at hlt3
     have hgr3 := (unhide hgr2).kp (unhide HK3) (by omega)
     obtain ⟨it, zt, q1, q2, q3, q4, q5⟩ := infoVz
     have HQ := hide (And.intro q1 (And.intro q2 (And.intro q3 (And.intro q4 q5))))
     clear q1 q2 q3 q4 q5
     obtain ⟨xss, hr3, hol3, hx3⟩ := hgr3.row
     have hr4 := hide (fun o => World.ownsRow.alloc hr3 o)
     have hbyt := hide (show (([] : List Dt).length + 1) * 192 ≤ 140737488355328 ∧ ([] : List Dt).length + 1 ≤ maxLen from ⟨by omega, by unfold maxLen; omega⟩)
     have hsz4 := hide (fun o => show w.heap.size + 1 ≤ (w3.alloc o).heap.size from by have := hz3; have := b2.size; simp; omega)
     have how := (unhide HP).own d rfl
     have hone := hide (how.1.one)
     have HW := hide how
     have HG := hide (And.intro hgr3 (And.intro hol3 hx3))
     have hTS := hide hts3
     clear hrun2 hgo hts3 hgr3 hr3 hol3 hx3 how
     go_wp2_with (first
      | (at_builtin; refine dt.wp_snoc (by rfl) _ _ (by rfl) Tryz.underlying49 (unhide HQ).1 (unhide HQ).2.1 (unhide HQ).2.2.1 (unhide HQ).2.2.2.1 (unhide HQ).2.2.2.2 (by omega) (w.heap.size + 1) ([] : List Dt).length xss.flatten _ (by rfl) ((unhide hr4) _) [.string z1, .string z2, .string z3, .bool z4, .int .i64 z5, .string z6, .bool z7, .slice z8 z9 u1, .slice u2 u3 u4, .int .i64 u5, .int .i64 u6, .slice v1 v2 v3, .int .i64 v4, .int .i64 v5] (by rfl) (unhide hone) (w3.heap.size + 1) (by simp) (by rfl) (unhide hbyt).1 (unhide hbyt).2 ((unhide hsz4) _) ?_; intro sl' w7 hr7 b7 hold7 hat7; have H7 := hide (And.intro hr7 (And.intro b7 (And.intro hold7 hat7))); clear hr7 b7 hold7 hat7))
     go_roundg g'
     case rel =>
      obtain ⟨hr7, b7, hold7, hat7⟩ := unhide H7
      obtain ⟨hgr3, hol3, hx3⟩ := unhide HG
      obtain ⟨w1', w2', w3'⟩ := unhide HW
      have bA : Below w3.heap.size w3 (w3.alloc (.cells #[.string z1, .string z2, .string z3, .bool z4, .int .i64 z5, .string z6, .bool z7, .slice z8 z9 u1, .slice u2 u3 u4, .int .i64 u5, .int .i64 u6, .slice v1 v2 v3, .int .i64 v4, .int .i64 v5] 72)) := (Below.refl _ _).alloc (Nat.le_refl _) _
      have hgr4 := hgr3.keep bA.size (fun b hb _ => bA.block b hb)
      have hown := fun b (hb : (Value.slice al ([] : List Dt).length cl).ownBlock = some b) => (let ⟨_, hr, _⟩ := (unhide hgr2).row; (hr.lt b hb).2)
      have hsz : w.heap.size ≤ w2.heap.size := hk2.size
      have hmore := hgr4.more (dt.OwL.agree (fun w w' e cs F => dt.Ow.agree e cs F) (fun b hb j => dt.cell_blk (bA.block b (hgr3.rng b hb).2) j) hol3) hx3 (ow_below w1' bA (fun b hb => (w3' b hb).2)) w2' (fun b hb => ⟨by have := (w3' b hb).1; omega, by have := (w3' b hb).2; have := bA.size; omega, fun hm => by have := ((unhide hgr2).rng b hm).2; have := (w3' b hb).1; omega, fun e => by have := hown b e; have := (w3' b hb).1; omega⟩) (by rfl) hr7 (by have := (hr7.lt); have := b7.size; exact this) hold7 hat7
      have hBs : B < w3.heap.size := by omega
      have hCA := (unhide HC3).below bA
      have b7' := b7.mono (Nat.le_succ w.heap.size)
      refine ⟨[] ++ [d], C, Gs ++ F, hrun3, ?_, hide hmore, ?_, hide ((unhide hTS).trans (unhide hts)), by omega, by rw [List.length_append]; simp; omega, hide ((b7.block w.heap.size (Nat.lt_succ_self _)).trans ((bA.block _ (by omega)).trans (unhide hp3))), by have := b7.size; have := bA.size; omega⟩
      ·exact hCA.low b7' hB hp
      ·exact ((hk2.trans (unhide HK3)).trans (Kp.of bA)).low b7'
     case measure => exact Nat.lt_succ_self _
   ·have hlz : ¬ ((l.length : Int) = 0) := by omega
    have hlz1 : ¬ (l = []) := fun e => hl0 (by rw [e]; rfl)
    have hip2 := hide ((unhide hip) wr cc hcc)
    go_wp2_with fail
    refine (unhide hip2).mono ?_
    rintro e w2 ⟨rfl, b2⟩
    have hc2 := hcc.below b2
    have hgr2 := hide ((unhide hgr).keep b2.size (fun b hb _ => b2.block b hb))
    have hk2 := hkr.trans (Kp.of b2)
    have hs2 := b2.size
    have hp2 := hide ((b2.block w.heap.size (by omega)).trans (unhide hpr))
    have cP2 := (unhide hPc) w2 (unhide hp2)
    cases hQ : cc.isP right
    ·clear hip2
     have hrun2 := hide (show (match (E cc).1 with | none => (none, (E cc).2) | some d => brkF E right 1 g' (l ++ [d]) (E cc).2) = R from by
      have e := unhide hrun
      rw [brkF, if_pos (.inr hQ)] at e
      exact e)
     have hgo := hG cc hcc.ok
     have hcall := hide ((unhide hEE) cc hcc.ok (unhide hts) (by omega) w2 hc2)
     go_wp2_with fail
     refine (unhide hcall).mono ?_
     rintro e w3 ⟨cs, F, rfl, hpo, hc3, hk3⟩
     obtain ⟨U, hU⟩ : ∃ U, U = E cc := ⟨_, rfl⟩
     rw [← hU] at hrun2 hgo hpo hc3 ⊢
     obtain ⟨r, C⟩ := U
     obtain ⟨z1, z2, z3, z4, z5, z6, z7, z8, z9, u1, u2, u3, u4, u5, u6, v1, v2, v3, v4, v5, hcs⟩ := hpo.shape
     unfold varCs at hcs
     subst hcs
     clear hcall hU hrun
     have HP := hide hpo
     clear hpo
     have HC3 := hide hc3
     have HK3 := hide hk3
     have hz3 := hk3.size
     have hp3 := hide ((hk3.block w.heap.size (by omega) (by omega)).trans (unhide hp2))
     cases r with
     | none =>
      have hrun3 := hide (show (none, C) = R from unhide hrun2)
      go_wp2_with fail
      go_ret2
      rw [unhide hs, ← unhide hrun3]
      exact ⟨_, rfl, rfl, (unhide HC3).below ((Below.refl _ _).alloc (Nat.le_refl _) _), (hk2.trans (unhide HK3)).trans (Kp.of ((Below.refl _ _).alloc (Nat.le_refl _) _))⟩
     | some d =>
      have hrun3 := hide (show brkF E right 1 g' (l ++ [d]) C = R from unhide hrun2)
      have hix3 : cc.ix < C.ix := hgo.2 rfl
      have hts3 := hgo.1.ts
      have hlt3 := hgo.1.ok.lt
      rw [hts3, unhide hts] at hlt3
      have hgr3 := (unhide hgr2).kp (unhide HK3) (by omega)
      obtain ⟨it, zt, q1, q2, q3, q4, q5⟩ := infoVz
      have HQ := hide (And.intro q1 (And.intro q2 (And.intro q3 (And.intro q4 q5))))
      clear q1 q2 q3 q4 q5
      obtain ⟨xss, hr3, hol3, hx3⟩ := hgr3.row
      have hr4 := hide (fun o => World.ownsRow.alloc hr3 o)
      have hbyt := hide (show (l.length + 1) * 192 ≤ 140737488355328 ∧ l.length + 1 ≤ maxLen from ⟨by omega, by unfold maxLen; omega⟩)
      have hsz4 := hide (fun o => show w.heap.size + 1 ≤ (w3.alloc o).heap.size from by have := hz3; have := b2.size; simp; omega)
      have how := (unhide HP).own d rfl
      have hone := hide (how.1.one)
      have HW := hide how
      have HG := hide (And.intro hgr3 (And.intro hol3 hx3))
      have hTS := hide hts3
      clear hrun2 hgo hts3 hgr3 hr3 hol3 hx3 how
      go_wp2_with (first
       | (at_builtin; refine dt.wp_snoc (by rfl) _ _ (by rfl) Tryz.underlying49 (unhide HQ).1 (unhide HQ).2.1 (unhide HQ).2.2.1 (unhide HQ).2.2.2.1 (unhide HQ).2.2.2.2 (by omega) (w.heap.size + 1) l.length xss.flatten _ (by rfl) ((unhide hr4) _) [.string z1, .string z2, .string z3, .bool z4, .int .i64 z5, .string z6, .bool z7, .slice z8 z9 u1, .slice u2 u3 u4, .int .i64 u5, .int .i64 u6, .slice v1 v2 v3, .int .i64 v4, .int .i64 v5] (by rfl) (unhide hone) (w3.heap.size + 1) (by simp) (by rfl) (unhide hbyt).1 (unhide hbyt).2 ((unhide hsz4) _) ?_; intro sl' w7 hr7 b7 hold7 hat7; have H7 := hide (And.intro hr7 (And.intro b7 (And.intro hold7 hat7))); clear hr7 b7 hold7 hat7))
      go_roundg g'
      case rel =>
       obtain ⟨hr7, b7, hold7, hat7⟩ := unhide H7
       obtain ⟨hgr3, hol3, hx3⟩ := unhide HG
       obtain ⟨w1', w2', w3'⟩ := unhide HW
       have bA : Below w3.heap.size w3 (w3.alloc (.cells #[.string z1, .string z2, .string z3, .bool z4, .int .i64 z5, .string z6, .bool z7, .slice z8 z9 u1, .slice u2 u3 u4, .int .i64 u5, .int .i64 u6, .slice v1 v2 v3, .int .i64 v4, .int .i64 v5] 72)) := (Below.refl _ _).alloc (Nat.le_refl _) _
       have hgr4 := hgr3.keep bA.size (fun b hb _ => bA.block b hb)
       have hown := fun b (hb : (Value.slice al l.length cl).ownBlock = some b) => (let ⟨_, hr, _⟩ := (unhide hgr2).row; (hr.lt b hb).2)
       have hsz : w.heap.size ≤ w2.heap.size := hk2.size
       have hmore := hgr4.more (dt.OwL.agree (fun w w' e cs F => dt.Ow.agree e cs F) (fun b hb j => dt.cell_blk (bA.block b (hgr3.rng b hb).2) j) hol3) hx3 (ow_below w1' bA (fun b hb => (w3' b hb).2)) w2' (fun b hb => ⟨by have := (w3' b hb).1; omega, by have := (w3' b hb).2; have := bA.size; omega, fun hm => by have := ((unhide hgr2).rng b hm).2; have := (w3' b hb).1; omega, fun e => by have := hown b e; have := (w3' b hb).1; omega⟩) (by rfl) hr7 (by have := (hr7.lt); have := b7.size; exact this) hold7 hat7
       have hBs : B < w3.heap.size := by omega
       have hCA := (unhide HC3).below bA
       have b7' := b7.mono (Nat.le_succ w.heap.size)
       refine ⟨l ++ [d], C, Gs ++ F, hrun3, ?_, hide hmore, ?_, hide ((unhide hTS).trans (unhide hts)), by omega, by rw [List.length_append]; simp; omega, hide ((b7.block w.heap.size (Nat.lt_succ_self _)).trans ((bA.block _ (by omega)).trans (unhide hp3))), by have := b7.size; have := bA.size; omega⟩
       ·exact hCA.low b7' hB hp
       ·exact ((hk2.trans (unhide HK3)).trans (Kp.of bA)).low b7'
      case measure => exact Nat.lt_succ_self _
    ·have hrun2 := hide (show (some l, cc.cls right) = R from by
      have e := unhide hrun
      rw [brkF, if_neg (fun e => by rcases e with e | e; omega; rw [hQ] at e; cases e)] at e
      exact e)
     have hcl2 := hide ((unhide hcl) w2 cc hc2)
     rw [hQ] at hcl2
     clear hrun hip2
     go_wp2_with fail
     refine (unhide hcl2).mono ?_
     rintro e w3 ⟨rfl, hc3, hk3⟩
     clear hcl2
     go_wp2_with fail
     go_ret2
     rw [unhide hs, ← unhide hrun2]
     exact ⟨_, rfl, ⟨Gs, ((unhide hgr2).kp hk3 (by omega)).lo (Nat.le_succ _)⟩, hc3, hk2.trans hk3⟩
def defC (k : Int) (nm on : ByteArray) (sh : Bool) (a1 : Option Addr) (n1 c1 : Nat) (a2 : Option Addr) (n2 c2 : Nat) (a3 : Option Addr) (n3 c3 : Nat) (ln co : Int) : List Value := [.int .i64 k, .string nm, .string on, .bool sh, .slice a1 n1 c1, .slice a2 n2 c2, .slice a3 n3 c3, .int .i64 ln, .int .i64 co]
structure DefPost (r : Option Dt) (w w' : World) (cs : List Value) (F : List Nat) : Prop where
 shape : ∃ k nm on sh a1 n1 c1 a2 n2 c2 a3 n3 c3 ln co, cs = defC k nm on sh a1 n1 c1 a2 n2 c2 a3 n3 c3 ln co
 own : ∀ d, r = some d → Ow w' d cs F ∧ F.Nodup ∧ ∀ b ∈ F, w.heap.size ≤ b ∧ b < w'.heap.size
theorem infoDef : (Tryz.prog.info? 53).map (·.size) = some 9 := by kernel_rfl
theorem def_ow {w : World} {l1 l2 l3 : List Dt} {lo1 hi1 lo2 hi2 lo3 hi3 : Nat} {a1 a2 a3 : Option Addr} {n1 c1 n2 c2 n3 c3 : Nat} {F1 F2 F3 : List Nat} (h1 : Sh w 14 l1 lo1 hi1 a1 n1 c1 F1) (h2 : Sh w 4 l2 lo2 hi2 a2 n2 c2 F2) (h3 : Sh w 9 l3 lo3 hi3 a3 n3 c3 F3) (h12 : hi1 ≤ lo2) (h23 : hi2 ≤ lo3) (h22 : lo2 ≤ hi2) (k : Int) (nm on : ByteArray) (sh : Bool) (ln co : Int) (lo : Nat) (g1 : lo ≤ lo1) (g2 : lo ≤ lo2) (g3 : lo ≤ lo3) :
  ∃ F, Ow w (defD k nm on sh l1 l2 l3 ln co) (defC k nm on sh a1 n1 c1 a2 n2 c2 a3 n3 c3 ln co) F ∧ F.Nodup ∧ ∀ b ∈ F, lo ≤ b ∧ b < w.heap.size := by
 obtain ⟨nd, rg⟩ := Sh.nodup h1 h2 h3 h12 h23 h22
 have hp : Ow w (.val (.int .i64 ln) (.val (.int .i64 co) .nil)) [.int .i64 ln, .int .i64 co] [] := pos_ow _ _ _
 refine ⟨F1 ++ (F2 ++ F3), ?_, nd, fun b hb => by have := rg b hb; omega⟩
 have h5 := h1.ow (h2.ow (h3.ow hp))
 rw [List.append_nil] at h5
 unfold defD defC
 unfold Ow
 refine ⟨_, rfl, rfl, ?_⟩
 unfold Ow
 refine ⟨_, rfl, rfl, ?_⟩
 unfold Ow
 refine ⟨_, rfl, rfl, ?_⟩
 unfold Ow
 exact ⟨_, rfl, rfl, h5⟩
def BodyAt (k : Int) (nm on : ByteArray) (a1 : Option Addr) (n1 c1 : Nat) (ln co : Int) (E : Cu → List Dt → Option Dt × Cu) (c : Cu) : Prop := ∀ (B p : Nat) (w : World) (vs : List Dt) (F1 : List Nat) (lo : Nat), CurAt w B p c → lo ≤ w.heap.size → B < lo → Sh w 14 vs lo w.heap.size a1 n1 c1 F1 → Calls Tryz.prog 75 #[par B, .agg (defC k nm on false a1 n1 c1 none 0 0 none 0 0 ln co).toArray] w fun e w' => ∃ cs F, e = .returned (.tuple #[.agg cs.toArray, .bool (E c vs).1.isSome]) ∧ (∃ a2 n2 c2 a3 n3 c3, cs = defC k nm on false a1 n1 c1 a2 n2 c2 a3 n3 c3 ln co) ∧ (∀ d, (E c vs).1 = some d → Ow w' d cs F ∧ F.Nodup ∧ ∀ b ∈ F, lo ≤ b ∧ b < w'.heap.size) ∧ CurAt w' B p (E c vs).2 ∧ Kp B w w'
set_option maxRecDepth 4000 in
set_option maxHeartbeats 8000000 in
theorem body_ok (L : LitR) (S : LstR) (k : Int) (nm on : ByteArray) (a1 : Option Addr) (n1 c1 : Nat) (t : Tk) (c : Cu) (hc0 : c.Ok) (hD : DirsAt (dirs L) false c) (hS : SelsAt S (dirs L c).2) (hsome : (S (dirs L c).2).1.isSome = true → ∃ l, (dirs L c).1 = some l) : BodyAt k nm on a1 n1 c1 t.ln t.co (fun c vs => bodyS L S k nm on vs t c) c := by
 intro B p w vs F1 lo h hlo hBlo hsh
 have hlt := h.lt
 have hplt := h.plt
 have hd := hide (fun W (hc : CurAt W B p c) => hD B p W hc)
 have hss := hide (fun W (hc : CurAt W B p (dirs L c).2) => hS B p W hc)
 have hVV : bodyS L S k nm on vs t c = ((S (dirs L c).2).1.map fun ss => defD k nm on false vs ((dirs L c).1.getD []) ss t.ln t.co, (S (dirs L c).2).2) := by unfold bodyS; cases (S (dirs L c).2).1 <;> rfl
 simp only
 obtain ⟨V, hV⟩ : ∃ V, V = bodyS L S k nm on vs t c := ⟨_, rfl⟩
 rw [← hV] at hVV ⊢
 clear hV
 obtain ⟨U, hU⟩ : ∃ U, U = dirs L c := ⟨_, rfl⟩
 rw [← hU] at hd hss hVV hsome
 obtain ⟨r, D⟩ := U
 simp only at hd hss hVV hsome
 obtain ⟨X, hX⟩ : ∃ X, X = S D := ⟨_, rfl⟩
 rw [← hX] at hss hVV hsome
 obtain ⟨q, E⟩ := X
 simp only at hss hVV hsome
 have HV := hide hVV
 have HSO := hide hsome
 have HLO := hide hlo
 clear hS hD hU hX hVV hsome
 unfold ptr at hd
 unfold par at hss ⊢
 unfold defC
 go_enter Tryz.func75, Tryz.ntmps75
 go_wp2_with fail
 obtain ⟨W1, hW1⟩ : ∃ W1, W1 = allocs w [(#[.pointer (some ⟨B, 0, none⟩)], 83), (#[.int .i64 k, .string nm, .string on, .bool false, .slice a1 n1 c1, .slice none 0 0, .slice none 0 0, .int .i64 t.ln, .int .i64 t.co], 53), (#[.int .i64 0, .string ⟨#[]⟩, .string ⟨#[]⟩, .bool false, .slice none 0 0, .slice none 0 0, .slice none 0 0, .int .i64 0, .int .i64 0], 53)] := ⟨_, rfl⟩
 have gW1 : W1 = (((w.alloc (.cells #[.pointer (some ⟨B, 0, none⟩)] 83)).alloc (.cells #[.int .i64 k, .string nm, .string on, .bool false, .slice a1 n1 c1, .slice none 0 0, .slice none 0 0, .int .i64 t.ln, .int .i64 t.co] 53)).alloc (.cells #[.int .i64 0, .string ⟨#[]⟩, .string ⟨#[]⟩, .bool false, .slice none 0 0, .slice none 0 0, .slice none 0 0, .int .i64 0, .int .i64 0] 53)) := hW1
 have aa := allocs_at [(#[.pointer (some ⟨B, 0, none⟩)], 83), (#[.int .i64 k, .string nm, .string on, .bool false, .slice a1 n1 c1, .slice none 0 0, .slice none 0 0, .int .i64 t.ln, .int .i64 t.co], 53), (#[.int .i64 0, .string ⟨#[]⟩, .string ⟨#[]⟩, .bool false, .slice none 0 0, .slice none 0 0, .slice none 0 0, .int .i64 0, .int .i64 0], 53)] w
 have fP1 : W1.heap[w.heap.size]? = some (.cells #[.pointer (some ⟨B, 0, none⟩)] 83 (0, 0)) := by rw [hW1]; exact aa 0 _ rfl
 have fS1 : W1.heap[(w.heap.size + 1)]? = some (.cells #[.int .i64 k, .string nm, .string on, .bool false, .slice a1 n1 c1, .slice none 0 0, .slice none 0 0, .int .i64 t.ln, .int .i64 t.co] 53 (0, 0)) := by rw [hW1]; exact aa 1 _ rfl
 have fR1 : W1.heap[(w.heap.size + 1 + 1)]? = some (.cells #[.int .i64 0, .string ⟨#[]⟩, .string ⟨#[]⟩, .bool false, .slice none 0 0, .slice none 0 0, .slice none 0 0, .int .i64 0, .int .i64 0] 53 (0, 0)) := by rw [hW1]; exact aa 2 _ rfl
 have bw : Below w.heap.size w W1 := by rw [hW1]; exact allocs_below _ _
 have sz1 : w.heap.size + 3 ≤ W1.heap.size := by rw [hW1, allocs_size]; exact Nat.le_refl _
 have K1 : Kp B w W1 := Kp.of bw
 have C1 := h.below bw
 rw [← gW1]
 clear gW1 hW1 bw aa h
 have sA1 := hsh.kp K1 hBlo
 clear hsh
 refine ((unhide hd) _ C1).mono ?_
 rintro e W2 ⟨sl, rfl, hbp, C2, J2⟩
 have sz2 := J2.size
 have fP2 : W2.heap[w.heap.size]? = some (.cells #[.pointer (some ⟨B, 0, none⟩)] 83 (0, 0)) := (J2.block _ (by omega) (by omega)).trans fP1
 have fS2 : W2.heap[(w.heap.size + 1)]? = some (.cells #[.int .i64 k, .string nm, .string on, .bool false, .slice a1 n1 c1, .slice none 0 0, .slice none 0 0, .int .i64 t.ln, .int .i64 t.co] 53 (0, 0)) := (J2.block _ (by omega) (by omega)).trans fS1
 have fR2 : W2.heap[(w.heap.size + 1 + 1)]? = some (.cells #[.int .i64 0, .string ⟨#[]⟩, .string ⟨#[]⟩, .bool false, .slice none 0 0, .slice none 0 0, .slice none 0 0, .int .i64 0, .int .i64 0] 53 (0, 0)) := (J2.block _ (by omega) (by omega)).trans fR1
 have sA2 := sA1.kp J2 (by omega)
 have K2 := K1.trans J2
 clear fP1 fS1 fR1 sA1 K1 C1 J2
 have loD := sz2
 obtain ⟨a2, n2, c2, rfl, sD2⟩ := brkD_form hbp
 clear hbp hd
 have cS4_5 : W2.cell? ⟨(w.heap.size + 1), 5, none⟩ = some (.slice none 0 0) := (dt.cell_cells fS2 5).trans rfl
 have zS4_5 : W2.frozen? ⟨(w.heap.size + 1), 5, none⟩ = false := dt.frozen_cells fS2 5
 have fP3 : (W2.setCell ⟨(w.heap.size + 1), 5, none⟩ (.slice a2 n2 c2)).heap[w.heap.size]? = some (.cells #[.pointer (some ⟨B, 0, none⟩)] 83 (0, 0)) := (Below.heap_setCell W2 _ _ _ (show w.heap.size ≠ (w.heap.size + 1) by omega)).trans fP2
 have fS3 : (W2.setCell ⟨(w.heap.size + 1), 5, none⟩ (.slice a2 n2 c2)).heap[(w.heap.size + 1)]? = some (.cells #[.int .i64 k, .string nm, .string on, .bool false, .slice a1 n1 c1, .slice a2 n2 c2, .slice none 0 0, .int .i64 t.ln, .int .i64 t.co] 53 (0, 0)) := (dt.heap_setCell_at fS2 5 _).trans (by kernel_rfl)
 have fR3 : (W2.setCell ⟨(w.heap.size + 1), 5, none⟩ (.slice a2 n2 c2)).heap[(w.heap.size + 1 + 1)]? = some (.cells #[.int .i64 0, .string ⟨#[]⟩, .string ⟨#[]⟩, .bool false, .slice none 0 0, .slice none 0 0, .slice none 0 0, .int .i64 0, .int .i64 0] 53 (0, 0)) := (Below.heap_setCell W2 _ _ _ (show (w.heap.size + 1 + 1) ≠ (w.heap.size + 1) by omega)).trans fR2
 have C3 := C2.outC (b := (w.heap.size + 1)) (by omega) (by omega) 5 (.slice a2 n2 c2)
 have K3 := K2.setB (b := (w.heap.size + 1)) (by omega) 5 (.slice a2 n2 c2)
 have sA3 := sA2.outC (b := (w.heap.size + 1)) (by omega) 5 (.slice a2 n2 c2)
 have sD3 := sD2.outC (b := (w.heap.size + 1)) (by omega) 5 (.slice a2 n2 c2)
 have cP5_0 : (W2.setCell ⟨(w.heap.size + 1), 5, none⟩ (.slice a2 n2 c2)).cell? ⟨w.heap.size, 0, none⟩ = some (.pointer (some ⟨B, 0, none⟩)) := (dt.cell_cells fP3 0).trans rfl
 have HH6 := hide (And.intro fP3 (And.intro fS3 (And.intro fR3 (And.intro sA3 (And.intro sD3 (And.intro C3 (And.intro K3 (And.intro fP2 (And.intro fS2 (And.intro fR2 (And.intro sA2 (And.intro sD2 (And.intro K2 (C2))))))))))))))
 clear fP3 fS3 fR3 sA3 sD3 C3 K3 fP2 fS2 fR2 sA2 sD2 K2 C2
 go_wp2_with fail
 obtain ⟨fP3, fS3, fR3, sA3, sD3, C3, K3, fP2, fS2, fR2, sA2, sD2, K2, C2⟩ := unhide HH6
 clear HH6
 obtain ⟨W7, hW7⟩ : ∃ W7, W7 = (W2.setCell ⟨(w.heap.size + 1), 5, none⟩ (.slice a2 n2 c2)) := ⟨_, rfl⟩
 rw [← hW7] at fP3 fS3 fR3 sA3 sD3 C3 K3 ⊢
 have sz7 : W2.heap.size + 0 ≤ W7.heap.size := by rw [hW7]; simp only [size_setC, dt.size_setCells, World.size_alloc]; exact Nat.le_refl _
 clear hW7 cS4_5 zS4_5 cP5_0 fP2 fS2 fR2 sA2 sD2 K2 C2
 refine ((unhide hss) _ C3).mono ?_
 rintro e W8 ⟨sl, rfl, hbp, C8, J8⟩
 have sz8 := J8.size
 have fP8 : W8.heap[w.heap.size]? = some (.cells #[.pointer (some ⟨B, 0, none⟩)] 83 (0, 0)) := (J8.block _ (by omega) (by omega)).trans fP3
 have fS8 : W8.heap[(w.heap.size + 1)]? = some (.cells #[.int .i64 k, .string nm, .string on, .bool false, .slice a1 n1 c1, .slice a2 n2 c2, .slice none 0 0, .int .i64 t.ln, .int .i64 t.co] 53 (0, 0)) := (J8.block _ (by omega) (by omega)).trans fS3
 have fR8 : W8.heap[(w.heap.size + 1 + 1)]? = some (.cells #[.int .i64 0, .string ⟨#[]⟩, .string ⟨#[]⟩, .bool false, .slice none 0 0, .slice none 0 0, .slice none 0 0, .int .i64 0, .int .i64 0] 53 (0, 0)) := (J8.block _ (by omega) (by omega)).trans fR3
 have sA8 := sA3.kp J8 (by omega)
 have sD8 := sD3.kp J8 (by omega)
 have K8 := K3.trans J8
 clear fP3 fS3 fR3 sA3 sD3 K3 C3 J8
 have loE := sz8
 obtain ⟨a3, n3, c3, F3, rfl, sE8⟩ := brkS_form hbp
 clear hbp hss
 have cS10_6 : W8.cell? ⟨(w.heap.size + 1), 6, none⟩ = some (.slice none 0 0) := (dt.cell_cells fS8 6).trans rfl
 have zS10_6 : W8.frozen? ⟨(w.heap.size + 1), 6, none⟩ = false := dt.frozen_cells fS8 6
 have fP9 : (W8.setCell ⟨(w.heap.size + 1), 6, none⟩ (.slice a3 n3 c3)).heap[w.heap.size]? = some (.cells #[.pointer (some ⟨B, 0, none⟩)] 83 (0, 0)) := (Below.heap_setCell W8 _ _ _ (show w.heap.size ≠ (w.heap.size + 1) by omega)).trans fP8
 have fS9 : (W8.setCell ⟨(w.heap.size + 1), 6, none⟩ (.slice a3 n3 c3)).heap[(w.heap.size + 1)]? = some (.cells #[.int .i64 k, .string nm, .string on, .bool false, .slice a1 n1 c1, .slice a2 n2 c2, .slice a3 n3 c3, .int .i64 t.ln, .int .i64 t.co] 53 (0, 0)) := (dt.heap_setCell_at fS8 6 _).trans (by kernel_rfl)
 have fR9 : (W8.setCell ⟨(w.heap.size + 1), 6, none⟩ (.slice a3 n3 c3)).heap[(w.heap.size + 1 + 1)]? = some (.cells #[.int .i64 0, .string ⟨#[]⟩, .string ⟨#[]⟩, .bool false, .slice none 0 0, .slice none 0 0, .slice none 0 0, .int .i64 0, .int .i64 0] 53 (0, 0)) := (Below.heap_setCell W8 _ _ _ (show (w.heap.size + 1 + 1) ≠ (w.heap.size + 1) by omega)).trans fR8
 have C9 := C8.outC (b := (w.heap.size + 1)) (by omega) (by omega) 6 (.slice a3 n3 c3)
 have K9 := K8.setB (b := (w.heap.size + 1)) (by omega) 6 (.slice a3 n3 c3)
 have sA9 := sA8.outC (b := (w.heap.size + 1)) (by omega) 6 (.slice a3 n3 c3)
 have sD9 := sD8.outC (b := (w.heap.size + 1)) (by omega) 6 (.slice a3 n3 c3)
 have sE9 := sE8.outC (b := (w.heap.size + 1)) (by omega) 6 (.slice a3 n3 c3)
 have cS11_0 : (W8.setCell ⟨(w.heap.size + 1), 6, none⟩ (.slice a3 n3 c3)).cell? ⟨(w.heap.size + 1), 0, none⟩ = some (.int .i64 k) := (dt.cell_cells fS9 0).trans rfl
 have cS11_1 : (W8.setCell ⟨(w.heap.size + 1), 6, none⟩ (.slice a3 n3 c3)).cell? ⟨(w.heap.size + 1), 1, none⟩ = some (.string nm) := (dt.cell_cells fS9 1).trans rfl
 have cS11_2 : (W8.setCell ⟨(w.heap.size + 1), 6, none⟩ (.slice a3 n3 c3)).cell? ⟨(w.heap.size + 1), 2, none⟩ = some (.string on) := (dt.cell_cells fS9 2).trans rfl
 have cS11_3 : (W8.setCell ⟨(w.heap.size + 1), 6, none⟩ (.slice a3 n3 c3)).cell? ⟨(w.heap.size + 1), 3, none⟩ = some (.bool false) := (dt.cell_cells fS9 3).trans rfl
 have cS11_4 : (W8.setCell ⟨(w.heap.size + 1), 6, none⟩ (.slice a3 n3 c3)).cell? ⟨(w.heap.size + 1), 4, none⟩ = some (.slice a1 n1 c1) := (dt.cell_cells fS9 4).trans rfl
 have cS11_5 : (W8.setCell ⟨(w.heap.size + 1), 6, none⟩ (.slice a3 n3 c3)).cell? ⟨(w.heap.size + 1), 5, none⟩ = some (.slice a2 n2 c2) := (dt.cell_cells fS9 5).trans rfl
 have cS11_6 : (W8.setCell ⟨(w.heap.size + 1), 6, none⟩ (.slice a3 n3 c3)).cell? ⟨(w.heap.size + 1), 6, none⟩ = some (.slice a3 n3 c3) := (dt.cell_cells fS9 6).trans rfl
 have cS11_7 : (W8.setCell ⟨(w.heap.size + 1), 6, none⟩ (.slice a3 n3 c3)).cell? ⟨(w.heap.size + 1), 7, none⟩ = some (.int .i64 t.ln) := (dt.cell_cells fS9 7).trans rfl
 have cS11_8 : (W8.setCell ⟨(w.heap.size + 1), 6, none⟩ (.slice a3 n3 c3)).cell? ⟨(w.heap.size + 1), 8, none⟩ = some (.int .i64 t.co) := (dt.cell_cells fS9 8).trans rfl
 have HT := hide (dt.there_cells fR9 (o := 0) (n := 9) (by decide))
 have HF := hide (And.intro C9 (And.intro K9 (And.intro sA9 (And.intro sD9 sE9))))
 clear C9 K9 sA9 sD9 sE9
 go_wp2_with (first
  | refine wpList_store_mid (by rfl) 53 _ _ (by rfl) (w.heap.size + 1 + 1) 0 (defC k nm on false a1 n1 c1 a2 n2 c2 a3 n3 c3 t.ln t.co).toArray (by rfl) (by rfl) (unhide HT) infoDef (dt.one_cells (cs := defC k nm on false a1 n1 c1 a2 n2 c2 a3 n3 c3 t.ln t.co) (by rfl)) ?_)
 refine bodyPost_ret (rgn.result_row_tmp rfl _ _ (w.heap.size + 1 + 1) 0 (defC k nm on false a1 n1 c1 a2 n2 c2 a3 n3 c3 t.ln t.co) _ rfl (World.rangeAt_setCells_same _ _ _ _ (unhide HT)) Tryz.underlying53 rfl infoDef) rfl ?_
 obtain ⟨hC, hK, hA, hD, hE⟩ := unhide HF
 have hlo := unhide HLO
 rw [unhide HV]
 cases q with
 | none =>
  exact ⟨_, [], rfl, ⟨_, _, _, _, _, _, rfl⟩, (fun d e => by cases e), hC.out (by omega) (by omega) _ _, hK.out (by omega) _ _⟩
 | some ss =>
  obtain ⟨l, rfl⟩ := (unhide HSO) rfl
  obtain ⟨F2, hD⟩ := hD l rfl
  have hA2 := hA.out (b := (w.heap.size + 1 + 1)) (.inr (by omega)) 0 (defC k nm on false a1 n1 c1 a2 n2 c2 a3 n3 c3 t.ln t.co)
  have hD2 := hD.out (b := (w.heap.size + 1 + 1)) (.inl (by omega)) 0 (defC k nm on false a1 n1 c1 a2 n2 c2 a3 n3 c3 t.ln t.co)
  have hE2 := hE.out (b := (w.heap.size + 1 + 1)) (.inl (by omega)) 0 (defC k nm on false a1 n1 c1 a2 n2 c2 a3 n3 c3 t.ln t.co)
  obtain ⟨F', p1, p2, p3⟩ := def_ow hA2 hD2 hE2 (by omega) (by omega) (by omega) k nm on false t.ln t.co lo (by omega) (by omega) (by omega)
  exact ⟨_, F', rfl, ⟨_, _, _, _, _, _, rfl⟩, (fun d e => by obtain rfl := Option.some.inj e; exact ⟨p1, p2, p3⟩), hC.out (by omega) (by omega) _ _, hK.out (by omega) _ _⟩
theorem Sh.hi' {w : World} {k : Nat} {l : List Dt} {lo hi : Nat} {a : Option Addr} {n c : Nat} {F : List Nat} (h : Sh w k l lo hi a n c F) : Sh w k l lo w.heap.size a n c F := ⟨h.nc, h.cm, h.no, h.nd, fun b hb => ⟨(h.rng b hb).1, Nat.lt_of_lt_of_le (h.rng b hb).2 h.hi⟩, Nat.le_refl _, h.len, h.at_⟩
theorem brkV_form {r : Option (List Dt)} {lo : Nat} {w : World} {sl : Value} (h : BrkPV r lo w sl) : ∃ a n c F, sl = .slice a n c ∧ Sh w 14 (r.getD []) lo w.heap.size a n c F := by
 unfold BrkPV at h
 cases r with
 | none => subst h; exact ⟨none, 0, 0, [], rfl, Sh.nil (Nat.le_refl _)⟩
 | some l =>
  obtain ⟨G, hg⟩ := h
  obtain ⟨a, n, c, F, rfl, hs⟩ := Sh.of hg
  exact ⟨a, n, c, F, rfl, hs⟩
def VarsAt (R : Option (List Dt) × Cu) (c : Cu) : Prop := ∀ (B p : Nat) (w : World), CurAt w B p c → Calls Tryz.prog 73 #[par B, .string bLp, .string bRp, .func (.func 74) #[par B] #[]] w fun e w' => ∃ sl, e = .returned (.tuple #[sl, .bool R.1.isSome]) ∧ BrkPV R.1 w.heap.size w' sl ∧ CurAt w' B p R.2 ∧ Kp B w w'
def OpAt (k : Int) (ln co : Int) (R : Option Dt × Cu) (c : Cu) : Prop := ∀ (B p : Nat) (w : World), CurAt w B p c → Calls Tryz.prog 55 #[par B, .int .i64 k, .agg #[.int .i64 ln, .int .i64 co]] w fun e w' => ∃ cs F, e = .returned (.tuple #[.agg cs.toArray, .bool R.1.isSome]) ∧ DefPost R.1 w w' cs F ∧ CurAt w' B p R.2 ∧ Kp B w w'
set_option maxRecDepth 4000 in
set_option maxHeartbeats 8000000 in
theorem operation_ok (T : TypR) (K L : LitR) (S : LstR) (k : Int) (t : Tk) (c : Cu) (hc0 : c.Ok) (hV : (opC c).isP bLp = true → VarsAt (brk (varQ T K) bLp bRp 1 (opC c)) (opC c)) (hB : ∀ a1 n1 c1, BodyAt k c.nmS em a1 n1 c1 t.ln t.co (fun c' vs => bodyS L S k c.nmS em vs t c') (varsS T K (opC c)).2) : OpAt k t.ln t.co (operS T K L S k t c) c := by
 intro B p w h
 have hlt := h.lt
 have hplt := h.plt
 have ht := hide (fun W (hc : CurAt W B p c) => token_ok B p c W hc)
 have hn := hide (fun W (hc : CurAt W B p c) => nameAny_ok B p c W hc)
 have hip := hide (fun W (hc : CurAt W B p (opC c)) => isPunct_ok B p (opC c) bLp W hc)
 have hv := hide (fun hq W (hc : CurAt W B p (opC c)) => hV hq B p W hc)
 have hb := hide (fun a1 n1 c1 W vs F1 lo (hc : CurAt W B p (varsS T K (opC c)).2) => hB a1 n1 c1 B p W vs F1 lo hc)
 have hoc := hide (show opC c = if c.tok.k = 3 then c.name else c from rfl)
 have hvs := hide (show varsS T K (opC c) = if (opC c).isP bLp then brk (varQ T K) bLp bRp 1 (opC c) else (some [], opC c) from rfl)
 have hns := hide (show c.nmS = if c.isN then c.tok.tx else em from rfl)
 have hn3 := hide (show c.tok.k ≠ 3 → c.nmS = em from fun e => by unfold Cu.nmS Cu.isN; simp [e])
 have hVV : operS T K L S k t c = bodyS L S k c.nmS em ((varsS T K (opC c)).1.getD []) t (varsS T K (opC c)).2 := rfl
 obtain ⟨V, hVe⟩ : ∃ V, V = operS T K L S k t c := ⟨_, rfl⟩
 rw [← hVe] at hVV ⊢
 rw [nmT_form] at hn
 obtain ⟨nt, hnt⟩ : ∃ nt, nt = if c.isN then c.tok.tx else em := ⟨_, rfl⟩
 rw [← hnt] at hn hns
 obtain ⟨x, hx⟩ : ∃ x, x = if c.isN then c.tok.ln else 0 := ⟨_, rfl⟩
 obtain ⟨y, hy⟩ : ∃ y, y = if c.isN then c.tok.co else 0 := ⟨_, rfl⟩
 rw [← hx, ← hy] at hn
 obtain ⟨bn, hbn⟩ : ∃ bn, bn = c.isN := ⟨_, rfl⟩
 rw [← hbn] at hn
 obtain ⟨NS, hNS⟩ : ∃ NS, NS = c.nmS := ⟨_, rfl⟩
 rw [← hNS] at hns hn3 hb hVV
 obtain rfl : NS = nt := unhide hns
 obtain ⟨X, hX⟩ : ∃ X, X = varsS T K (opC c) := ⟨_, rfl⟩
 rw [← hX] at hb hvs hVV
 obtain ⟨q, E⟩ := X
 simp only at hb hVV
 obtain ⟨Y, hY⟩ : ∃ Y, Y = brk (varQ T K) bLp bRp 1 (opC c) := ⟨_, rfl⟩
 rw [← hY] at hv hvs
 obtain ⟨O, hO⟩ : ∃ O, O = opC c := ⟨_, rfl⟩
 rw [← hO] at hip hv hoc hvs
 obtain ⟨IP, hIP⟩ : ∃ IP, IP = O.isP bLp := ⟨_, rfl⟩
 rw [← hIP] at hip hv hvs
 obtain ⟨N1, hN1⟩ : ∃ N1, N1 = c.name := ⟨_, rfl⟩
 rw [← hN1] at hn hoc
 obtain ⟨VB, hVB⟩ : ∃ VB : List Dt → Option Dt × Cu, VB = fun vs => bodyS L S k NS em vs t E := ⟨_, rfl⟩
 have hb2 := hide (show ∀ a1 n1 c1 W vs F1 lo, CurAt W B p E → lo ≤ W.heap.size → B < lo → Sh W 14 vs lo W.heap.size a1 n1 c1 F1 → Calls Tryz.prog 75 #[par B, .agg (defC k NS em false a1 n1 c1 none 0 0 none 0 0 t.ln t.co).toArray] W fun e w' => ∃ cs F, e = .returned (.tuple #[.agg cs.toArray, .bool (VB vs).1.isSome]) ∧ (∃ a2 n2 c2 a3 n3 c3, cs = defC k NS em false a1 n1 c1 a2 n2 c2 a3 n3 c3 t.ln t.co) ∧ (∀ d, (VB vs).1 = some d → Ow w' d cs F ∧ F.Nodup ∧ ∀ b ∈ F, lo ≤ b ∧ b < w'.heap.size) ∧ CurAt w' B p (VB vs).2 ∧ Kp B W w' from by rw [hVB]; exact unhide hb)
 have hV2 : V = VB (q.getD []) := by rw [hVB]; exact hVV
 have HV := hide hV2
 obtain ⟨t0, et⟩ : ∃ t0, t0 = c.tok := ⟨_, rfl⟩
 rw [← et] at ht hoc hn3
 have hf2 := fld_kind t0
 clear hV hB hVV hVe hnt hx hy hbn hNS hns hX hY hO hIP hN1 et hb hVB hV2
 unfold Tk.cells at ht
 obtain ⟨k0, l0, o0, f0, g0, x0, v0⟩ := t0
 simp only at ht hf2 hoc hn3
 unfold ptr at ht hn hip
 unfold par at hv hb2 ⊢
 go_enter Tryz.func55, Tryz.ntmps55
 go_wp2_with fail
 obtain ⟨W1, hW1⟩ : ∃ W1, W1 = allocs w [(#[.pointer (some ⟨B, 0, none⟩)], 83), (#[.int .i64 t.ln, .int .i64 t.co], 28), (#[.int .i64 0, .string ⟨#[]⟩, .string ⟨#[]⟩, .bool false, .slice none 0 0, .slice none 0 0, .slice none 0 0, .int .i64 0, .int .i64 0], 53), (#[.int .i64 k, .string ⟨#[]⟩, .string ⟨#[]⟩, .bool false, .slice none 0 0, .slice none 0 0, .slice none 0 0, .int .i64 t.ln, .int .i64 t.co], 53)] := ⟨_, rfl⟩
 have gW1 : W1 = ((((w.alloc (.cells #[.pointer (some ⟨B, 0, none⟩)] 83)).alloc (.cells #[.int .i64 t.ln, .int .i64 t.co] 28)).alloc (.cells #[.int .i64 0, .string ⟨#[]⟩, .string ⟨#[]⟩, .bool false, .slice none 0 0, .slice none 0 0, .slice none 0 0, .int .i64 0, .int .i64 0] 53)).alloc (.cells #[.int .i64 k, .string ⟨#[]⟩, .string ⟨#[]⟩, .bool false, .slice none 0 0, .slice none 0 0, .slice none 0 0, .int .i64 t.ln, .int .i64 t.co] 53)) := hW1
 have aa := allocs_at [(#[.pointer (some ⟨B, 0, none⟩)], 83), (#[.int .i64 t.ln, .int .i64 t.co], 28), (#[.int .i64 0, .string ⟨#[]⟩, .string ⟨#[]⟩, .bool false, .slice none 0 0, .slice none 0 0, .slice none 0 0, .int .i64 0, .int .i64 0], 53), (#[.int .i64 k, .string ⟨#[]⟩, .string ⟨#[]⟩, .bool false, .slice none 0 0, .slice none 0 0, .slice none 0 0, .int .i64 t.ln, .int .i64 t.co], 53)] w
 have fP1 : W1.heap[w.heap.size]? = some (.cells #[.pointer (some ⟨B, 0, none⟩)] 83 (0, 0)) := by rw [hW1]; exact aa 0 _ rfl
 have fQ1 : W1.heap[(w.heap.size + 1)]? = some (.cells #[.int .i64 t.ln, .int .i64 t.co] 28 (0, 0)) := by rw [hW1]; exact aa 1 _ rfl
 have fR1 : W1.heap[(w.heap.size + 1 + 1)]? = some (.cells #[.int .i64 0, .string ⟨#[]⟩, .string ⟨#[]⟩, .bool false, .slice none 0 0, .slice none 0 0, .slice none 0 0, .int .i64 0, .int .i64 0] 53 (0, 0)) := by rw [hW1]; exact aa 2 _ rfl
 have fS1 : W1.heap[(w.heap.size + 1 + 1 + 1)]? = some (.cells #[.int .i64 k, .string ⟨#[]⟩, .string ⟨#[]⟩, .bool false, .slice none 0 0, .slice none 0 0, .slice none 0 0, .int .i64 t.ln, .int .i64 t.co] 53 (0, 0)) := by rw [hW1]; exact aa 3 _ rfl
 have bw : Below w.heap.size w W1 := by rw [hW1]; exact allocs_below _ _
 have sz1 : w.heap.size + 4 ≤ W1.heap.size := by rw [hW1, allocs_size]; exact Nat.le_refl _
 have K1 : Kp B w W1 := Kp.of bw
 have C1 := h.below bw
 rw [← gW1]
 clear gW1 hW1 bw aa h
 refine ((unhide ht) _ C1).mono ?_
 rintro e W2 ⟨rfl, bb2⟩
 have J2 : Kp B W1 W2 := Kp.of bb2
 have C2 := C1.below bb2
 have sz2 := J2.size
 have fP2 : W2.heap[w.heap.size]? = some (.cells #[.pointer (some ⟨B, 0, none⟩)] 83 (0, 0)) := (J2.block _ (by omega) (by omega)).trans fP1
 have fQ2 : W2.heap[(w.heap.size + 1)]? = some (.cells #[.int .i64 t.ln, .int .i64 t.co] 28 (0, 0)) := (J2.block _ (by omega) (by omega)).trans fQ1
 have fR2 : W2.heap[(w.heap.size + 1 + 1)]? = some (.cells #[.int .i64 0, .string ⟨#[]⟩, .string ⟨#[]⟩, .bool false, .slice none 0 0, .slice none 0 0, .slice none 0 0, .int .i64 0, .int .i64 0] 53 (0, 0)) := (J2.block _ (by omega) (by omega)).trans fR1
 have fS2 : W2.heap[(w.heap.size + 1 + 1 + 1)]? = some (.cells #[.int .i64 k, .string ⟨#[]⟩, .string ⟨#[]⟩, .bool false, .slice none 0 0, .slice none 0 0, .slice none 0 0, .int .i64 t.ln, .int .i64 t.co] 53 (0, 0)) := (J2.block _ (by omega) (by omega)).trans fS1
 have K2 := K1.trans J2
 clear fP1 fQ1 fR1 fS1 K1 C1 J2
 clear ht
 by_cases hk3 : k0 = 3
 ·subst hk3
  obtain rfl : O = N1 := unhide hoc
  clear hoc hn3
  have cP3_0 : W2.cell? ⟨w.heap.size, 0, none⟩ = some (.pointer (some ⟨B, 0, none⟩)) := (dt.cell_cells fP2 0).trans rfl
  have HH4 := hide (And.intro fP2 (And.intro fQ2 (And.intro fR2 (And.intro fS2 (And.intro C2 (K2))))))
  clear fP2 fQ2 fR2 fS2 C2 K2
  go_wp2_with fail
  obtain ⟨fP2, fQ2, fR2, fS2, C2, K2⟩ := unhide HH4
  clear HH4
  refine ((unhide hn) _ C2).mono ?_
  rintro e W5 ⟨rfl, C5, J5⟩
  have sz5 := J5.size
  have fP5 : W5.heap[w.heap.size]? = some (.cells #[.pointer (some ⟨B, 0, none⟩)] 83 (0, 0)) := (J5.block _ (by omega) (by omega)).trans fP2
  have fQ5 : W5.heap[(w.heap.size + 1)]? = some (.cells #[.int .i64 t.ln, .int .i64 t.co] 28 (0, 0)) := (J5.block _ (by omega) (by omega)).trans fQ2
  have fR5 : W5.heap[(w.heap.size + 1 + 1)]? = some (.cells #[.int .i64 0, .string ⟨#[]⟩, .string ⟨#[]⟩, .bool false, .slice none 0 0, .slice none 0 0, .slice none 0 0, .int .i64 0, .int .i64 0] 53 (0, 0)) := (J5.block _ (by omega) (by omega)).trans fR2
  have fS5 : W5.heap[(w.heap.size + 1 + 1 + 1)]? = some (.cells #[.int .i64 k, .string ⟨#[]⟩, .string ⟨#[]⟩, .bool false, .slice none 0 0, .slice none 0 0, .slice none 0 0, .int .i64 t.ln, .int .i64 t.co] 53 (0, 0)) := (J5.block _ (by omega) (by omega)).trans fS2
  have K5 := K2.trans J5
  clear fP2 fQ2 fR2 fS2 K2 C2 J5 cP3_0
  clear hn
  have fP6 : (W5.alloc (.cells #[.string NS, .int .i64 x, .int .i64 y] 120)).heap[w.heap.size]? = some (.cells #[.pointer (some ⟨B, 0, none⟩)] 83 (0, 0)) := (Below.heap_alloc W5 _ _ (by omega)).trans fP5
  have fQ6 : (W5.alloc (.cells #[.string NS, .int .i64 x, .int .i64 y] 120)).heap[(w.heap.size + 1)]? = some (.cells #[.int .i64 t.ln, .int .i64 t.co] 28 (0, 0)) := (Below.heap_alloc W5 _ _ (by omega)).trans fQ5
  have fR6 : (W5.alloc (.cells #[.string NS, .int .i64 x, .int .i64 y] 120)).heap[(w.heap.size + 1 + 1)]? = some (.cells #[.int .i64 0, .string ⟨#[]⟩, .string ⟨#[]⟩, .bool false, .slice none 0 0, .slice none 0 0, .slice none 0 0, .int .i64 0, .int .i64 0] 53 (0, 0)) := (Below.heap_alloc W5 _ _ (by omega)).trans fR5
  have fS6 : (W5.alloc (.cells #[.string NS, .int .i64 x, .int .i64 y] 120)).heap[(w.heap.size + 1 + 1 + 1)]? = some (.cells #[.int .i64 k, .string ⟨#[]⟩, .string ⟨#[]⟩, .bool false, .slice none 0 0, .slice none 0 0, .slice none 0 0, .int .i64 t.ln, .int .i64 t.co] 53 (0, 0)) := (Below.heap_alloc W5 _ _ (by omega)).trans fS5
  have fN6 : (W5.alloc (.cells #[.string NS, .int .i64 x, .int .i64 y] 120)).heap[W5.heap.size]? = some (.cells #[.string NS, .int .i64 x, .int .i64 y] 120 (0, 0)) := heap_alloc_new _ _
  have bb6 : Below W5.heap.size W5 (W5.alloc (.cells #[.string NS, .int .i64 x, .int .i64 y] 120)) := (Below.refl _ _).alloc (Nat.le_refl _) _
  have C6 := C5.below bb6
  have K6 := K5.trans (Kp.of bb6)
  have cS8_1 : (W5.alloc (.cells #[.string NS, .int .i64 x, .int .i64 y] 120)).cell? ⟨(w.heap.size + 1 + 1 + 1), 1, none⟩ = some (.string ⟨#[]⟩) := (dt.cell_cells fS6 1).trans rfl
  have zS8_1 : (W5.alloc (.cells #[.string NS, .int .i64 x, .int .i64 y] 120)).frozen? ⟨(w.heap.size + 1 + 1 + 1), 1, none⟩ = false := dt.frozen_cells fS6 1
  have fP7 : ((W5.alloc (.cells #[.string NS, .int .i64 x, .int .i64 y] 120)).setCell ⟨(w.heap.size + 1 + 1 + 1), 1, none⟩ (.string NS)).heap[w.heap.size]? = some (.cells #[.pointer (some ⟨B, 0, none⟩)] 83 (0, 0)) := (Below.heap_setCell (W5.alloc (.cells #[.string NS, .int .i64 x, .int .i64 y] 120)) _ _ _ (show w.heap.size ≠ (w.heap.size + 1 + 1 + 1) by omega)).trans fP6
  have fQ7 : ((W5.alloc (.cells #[.string NS, .int .i64 x, .int .i64 y] 120)).setCell ⟨(w.heap.size + 1 + 1 + 1), 1, none⟩ (.string NS)).heap[(w.heap.size + 1)]? = some (.cells #[.int .i64 t.ln, .int .i64 t.co] 28 (0, 0)) := (Below.heap_setCell (W5.alloc (.cells #[.string NS, .int .i64 x, .int .i64 y] 120)) _ _ _ (show (w.heap.size + 1) ≠ (w.heap.size + 1 + 1 + 1) by omega)).trans fQ6
  have fR7 : ((W5.alloc (.cells #[.string NS, .int .i64 x, .int .i64 y] 120)).setCell ⟨(w.heap.size + 1 + 1 + 1), 1, none⟩ (.string NS)).heap[(w.heap.size + 1 + 1)]? = some (.cells #[.int .i64 0, .string ⟨#[]⟩, .string ⟨#[]⟩, .bool false, .slice none 0 0, .slice none 0 0, .slice none 0 0, .int .i64 0, .int .i64 0] 53 (0, 0)) := (Below.heap_setCell (W5.alloc (.cells #[.string NS, .int .i64 x, .int .i64 y] 120)) _ _ _ (show (w.heap.size + 1 + 1) ≠ (w.heap.size + 1 + 1 + 1) by omega)).trans fR6
  have fS7 : ((W5.alloc (.cells #[.string NS, .int .i64 x, .int .i64 y] 120)).setCell ⟨(w.heap.size + 1 + 1 + 1), 1, none⟩ (.string NS)).heap[(w.heap.size + 1 + 1 + 1)]? = some (.cells #[.int .i64 k, .string NS, .string ⟨#[]⟩, .bool false, .slice none 0 0, .slice none 0 0, .slice none 0 0, .int .i64 t.ln, .int .i64 t.co] 53 (0, 0)) := (dt.heap_setCell_at fS6 1 _).trans (by kernel_rfl)
  have fN7 : ((W5.alloc (.cells #[.string NS, .int .i64 x, .int .i64 y] 120)).setCell ⟨(w.heap.size + 1 + 1 + 1), 1, none⟩ (.string NS)).heap[W5.heap.size]? = some (.cells #[.string NS, .int .i64 x, .int .i64 y] 120 (0, 0)) := (Below.heap_setCell (W5.alloc (.cells #[.string NS, .int .i64 x, .int .i64 y] 120)) _ _ _ (show W5.heap.size ≠ (w.heap.size + 1 + 1 + 1) by omega)).trans fN6
  have C7 := C6.outC (b := (w.heap.size + 1 + 1 + 1)) (by omega) (by omega) 1 (.string NS)
  have K7 := K6.setB (b := (w.heap.size + 1 + 1 + 1)) (by omega) 1 (.string NS)
  have cP9_0 : ((W5.alloc (.cells #[.string NS, .int .i64 x, .int .i64 y] 120)).setCell ⟨(w.heap.size + 1 + 1 + 1), 1, none⟩ (.string NS)).cell? ⟨w.heap.size, 0, none⟩ = some (.pointer (some ⟨B, 0, none⟩)) := (dt.cell_cells fP7 0).trans rfl
  have HH10 := hide (And.intro fP7 (And.intro fQ7 (And.intro fR7 (And.intro fS7 (And.intro fN7 (And.intro C7 (And.intro K7 (And.intro fP5 (And.intro fQ5 (And.intro fR5 (And.intro fS5 (And.intro K5 (And.intro C5 (And.intro fP6 (And.intro fQ6 (And.intro fR6 (And.intro fS6 (And.intro fN6 (And.intro K6 (C6))))))))))))))))))))
  clear fP7 fQ7 fR7 fS7 fN7 C7 K7 fP5 fQ5 fR5 fS5 K5 C5 fP6 fQ6 fR6 fS6 fN6 K6 C6
  go_wp2_with fail
  obtain ⟨fP7, fQ7, fR7, fS7, fN7, C7, K7, fP5, fQ5, fR5, fS5, K5, C5, fP6, fQ6, fR6, fS6, fN6, K6, C6⟩ := unhide HH10
  clear HH10
  obtain ⟨W11, hW11⟩ : ∃ W11, W11 = ((W5.alloc (.cells #[.string NS, .int .i64 x, .int .i64 y] 120)).setCell ⟨(w.heap.size + 1 + 1 + 1), 1, none⟩ (.string NS)) := ⟨_, rfl⟩
  rw [← hW11] at fP7 fQ7 fR7 fS7 fN7 C7 K7 ⊢
  have sz11 : W5.heap.size + 1 ≤ W11.heap.size := by rw [hW11]; simp only [size_setC, dt.size_setCells, World.size_alloc]; exact Nat.le_refl _
  clear hW11 cS8_1 zS8_1 cP9_0 fP5 fQ5 fR5 fS5 K5 C5 fP6 fQ6 fR6 fS6 fN6 K6 C6
  refine ((unhide hip) _ C7).mono ?_
  rintro e W12 ⟨rfl, bb12⟩
  have J12 : Kp B W11 W12 := Kp.of bb12
  have C12 := C7.below bb12
  have sz12 := J12.size
  have fP12 : W12.heap[w.heap.size]? = some (.cells #[.pointer (some ⟨B, 0, none⟩)] 83 (0, 0)) := (J12.block _ (by omega) (by omega)).trans fP7
  have fQ12 : W12.heap[(w.heap.size + 1)]? = some (.cells #[.int .i64 t.ln, .int .i64 t.co] 28 (0, 0)) := (J12.block _ (by omega) (by omega)).trans fQ7
  have fR12 : W12.heap[(w.heap.size + 1 + 1)]? = some (.cells #[.int .i64 0, .string ⟨#[]⟩, .string ⟨#[]⟩, .bool false, .slice none 0 0, .slice none 0 0, .slice none 0 0, .int .i64 0, .int .i64 0] 53 (0, 0)) := (J12.block _ (by omega) (by omega)).trans fR7
  have fS12 : W12.heap[(w.heap.size + 1 + 1 + 1)]? = some (.cells #[.int .i64 k, .string NS, .string ⟨#[]⟩, .bool false, .slice none 0 0, .slice none 0 0, .slice none 0 0, .int .i64 t.ln, .int .i64 t.co] 53 (0, 0)) := (J12.block _ (by omega) (by omega)).trans fS7
  have fN12 : W12.heap[W5.heap.size]? = some (.cells #[.string NS, .int .i64 x, .int .i64 y] 120 (0, 0)) := (J12.block _ (by omega) (by omega)).trans fN7
  have K12 := K7.trans J12
  clear fP7 fQ7 fR7 fS7 fN7 K7 C7 J12
  clear hip
  cases IP
  ·have hx := unhide hvs
   simp only [Bool.false_eq_true, if_false, Prod.mk.injEq] at hx
   obtain ⟨rfl, rfl⟩ := hx
   clear hvs hv
   have cP13_0 : W12.cell? ⟨w.heap.size, 0, none⟩ = some (.pointer (some ⟨B, 0, none⟩)) := (dt.cell_cells fP12 0).trans rfl
   have cS14_0 : W12.cell? ⟨(w.heap.size + 1 + 1 + 1), 0, none⟩ = some (.int .i64 k) := (dt.cell_cells fS12 0).trans rfl
   have cS14_1 : W12.cell? ⟨(w.heap.size + 1 + 1 + 1), 1, none⟩ = some (.string NS) := (dt.cell_cells fS12 1).trans rfl
   have cS14_2 : W12.cell? ⟨(w.heap.size + 1 + 1 + 1), 2, none⟩ = some (.string ⟨#[]⟩) := (dt.cell_cells fS12 2).trans rfl
   have cS14_3 : W12.cell? ⟨(w.heap.size + 1 + 1 + 1), 3, none⟩ = some (.bool false) := (dt.cell_cells fS12 3).trans rfl
   have cS14_4 : W12.cell? ⟨(w.heap.size + 1 + 1 + 1), 4, none⟩ = some (.slice none 0 0) := (dt.cell_cells fS12 4).trans rfl
   have cS14_5 : W12.cell? ⟨(w.heap.size + 1 + 1 + 1), 5, none⟩ = some (.slice none 0 0) := (dt.cell_cells fS12 5).trans rfl
   have cS14_6 : W12.cell? ⟨(w.heap.size + 1 + 1 + 1), 6, none⟩ = some (.slice none 0 0) := (dt.cell_cells fS12 6).trans rfl
   have cS14_7 : W12.cell? ⟨(w.heap.size + 1 + 1 + 1), 7, none⟩ = some (.int .i64 t.ln) := (dt.cell_cells fS12 7).trans rfl
   have cS14_8 : W12.cell? ⟨(w.heap.size + 1 + 1 + 1), 8, none⟩ = some (.int .i64 t.co) := (dt.cell_cells fS12 8).trans rfl
   have HH15 := hide (And.intro fP12 (And.intro fQ12 (And.intro fR12 (And.intro fS12 (And.intro fN12 (And.intro C12 (K12)))))))
   clear fP12 fQ12 fR12 fS12 fN12 C12 K12
   go_wp2_with fail
   obtain ⟨fP12, fQ12, fR12, fS12, fN12, C12, K12⟩ := unhide HH15
   clear HH15
   refine ((unhide hb2) none 0 0 _ [] [] _ C12 (Nat.le_refl _) (by omega) (Sh.nil (Nat.le_refl _))).mono ?_
   rintro e W16 ⟨cs, F, rfl, hsp, hown, C16, J16⟩
   have sz16 := J16.size
   have fP16 : W16.heap[w.heap.size]? = some (.cells #[.pointer (some ⟨B, 0, none⟩)] 83 (0, 0)) := (J16.block _ (by omega) (by omega)).trans fP12
   have fQ16 : W16.heap[(w.heap.size + 1)]? = some (.cells #[.int .i64 t.ln, .int .i64 t.co] 28 (0, 0)) := (J16.block _ (by omega) (by omega)).trans fQ12
   have fR16 : W16.heap[(w.heap.size + 1 + 1)]? = some (.cells #[.int .i64 0, .string ⟨#[]⟩, .string ⟨#[]⟩, .bool false, .slice none 0 0, .slice none 0 0, .slice none 0 0, .int .i64 0, .int .i64 0] 53 (0, 0)) := (J16.block _ (by omega) (by omega)).trans fR12
   have fS16 : W16.heap[(w.heap.size + 1 + 1 + 1)]? = some (.cells #[.int .i64 k, .string NS, .string ⟨#[]⟩, .bool false, .slice none 0 0, .slice none 0 0, .slice none 0 0, .int .i64 t.ln, .int .i64 t.co] 53 (0, 0)) := (J16.block _ (by omega) (by omega)).trans fS12
   have fN16 : W16.heap[W5.heap.size]? = some (.cells #[.string NS, .int .i64 x, .int .i64 y] 120 (0, 0)) := (J16.block _ (by omega) (by omega)).trans fN12
   have K16 := K12.trans J16
   clear fP12 fQ12 fR12 fS12 fN12 K12 C12 J16 cP13_0 cS14_0 cS14_1 cS14_2 cS14_3 cS14_4 cS14_5 cS14_6 cS14_7 cS14_8
   obtain ⟨z1, z2, z3, z4, z5, z6, rfl⟩ := hsp
   have HT := hide (dt.there_cells fR16 (o := 0) (n := 9) (by decide))
   have HF := hide (And.intro C16 (And.intro K16 hown))
   clear C16 K16 hown
   go_wp2_with (first
    | refine wpList_store_mid (by rfl) 53 _ _ (by rfl) (w.heap.size + 1 + 1) 0 (defC k NS em false none 0 0 z1 z2 z3 z4 z5 z6 t.ln t.co).toArray (by rfl) (by rfl) (unhide HT) infoDef (dt.one_cells (cs := defC k NS em false none 0 0 z1 z2 z3 z4 z5 z6 t.ln t.co) (by rfl)) ?_)
   refine bodyPost_ret (rgn.result_row_tmp rfl _ _ (w.heap.size + 1 + 1) 0 (defC k NS em false none 0 0 z1 z2 z3 z4 z5 z6 t.ln t.co) _ rfl (World.rangeAt_setCells_same _ _ _ _ (unhide HT)) Tryz.underlying53 rfl infoDef) rfl ?_
   obtain ⟨hC, hK, hown⟩ := unhide HF
   rw [unhide HV]
   exact ⟨_, F, rfl, ⟨⟨_, _, _, _, _, _, _, _, _, _, _, _, _, _, _, rfl⟩, fun d e => let hh := hown d e; ⟨ow_out hh.1 (fun hb => by have := (hh.2.2 _ hb).1; omega) 0 _, hh.2.1, fun b hb => ⟨by have := (hh.2.2 b hb).1; omega, by rw [dt.size_setCells]; exact (hh.2.2 b hb).2⟩⟩⟩, hC.out (by omega) (by omega) _ _, hK.out (by omega) _ _⟩
  ·have hx := unhide hvs
   simp only [if_true] at hx
   subst hx
   clear hvs
   have cP13_0 : W12.cell? ⟨w.heap.size, 0, none⟩ = some (.pointer (some ⟨B, 0, none⟩)) := (dt.cell_cells fP12 0).trans rfl
   have HH14 := hide (And.intro fP12 (And.intro fQ12 (And.intro fR12 (And.intro fS12 (And.intro fN12 (And.intro C12 (K12)))))))
   clear fP12 fQ12 fR12 fS12 fN12 C12 K12
   go_wp2_with fail
   obtain ⟨fP12, fQ12, fR12, fS12, fN12, C12, K12⟩ := unhide HH14
   clear HH14
   refine ((unhide hv) (by first | rfl | trivial) _ C12).mono ?_
   rintro e W15 ⟨sl, rfl, hbp, C15, J15⟩
   have sz15 := J15.size
   have fP15 : W15.heap[w.heap.size]? = some (.cells #[.pointer (some ⟨B, 0, none⟩)] 83 (0, 0)) := (J15.block _ (by omega) (by omega)).trans fP12
   have fQ15 : W15.heap[(w.heap.size + 1)]? = some (.cells #[.int .i64 t.ln, .int .i64 t.co] 28 (0, 0)) := (J15.block _ (by omega) (by omega)).trans fQ12
   have fR15 : W15.heap[(w.heap.size + 1 + 1)]? = some (.cells #[.int .i64 0, .string ⟨#[]⟩, .string ⟨#[]⟩, .bool false, .slice none 0 0, .slice none 0 0, .slice none 0 0, .int .i64 0, .int .i64 0] 53 (0, 0)) := (J15.block _ (by omega) (by omega)).trans fR12
   have fS15 : W15.heap[(w.heap.size + 1 + 1 + 1)]? = some (.cells #[.int .i64 k, .string NS, .string ⟨#[]⟩, .bool false, .slice none 0 0, .slice none 0 0, .slice none 0 0, .int .i64 t.ln, .int .i64 t.co] 53 (0, 0)) := (J15.block _ (by omega) (by omega)).trans fS12
   have fN15 : W15.heap[W5.heap.size]? = some (.cells #[.string NS, .int .i64 x, .int .i64 y] 120 (0, 0)) := (J15.block _ (by omega) (by omega)).trans fN12
   have K15 := K12.trans J15
   clear fP12 fQ12 fR12 fS12 fN12 K12 C12 J15 cP13_0
   have loV := sz15
   obtain ⟨a1, n1, c1, F1, rfl, sA15⟩ := brkV_form hbp
   clear hbp hv
   have cS17_4 : W15.cell? ⟨(w.heap.size + 1 + 1 + 1), 4, none⟩ = some (.slice none 0 0) := (dt.cell_cells fS15 4).trans rfl
   have zS17_4 : W15.frozen? ⟨(w.heap.size + 1 + 1 + 1), 4, none⟩ = false := dt.frozen_cells fS15 4
   have fP16 : (W15.setCell ⟨(w.heap.size + 1 + 1 + 1), 4, none⟩ (.slice a1 n1 c1)).heap[w.heap.size]? = some (.cells #[.pointer (some ⟨B, 0, none⟩)] 83 (0, 0)) := (Below.heap_setCell W15 _ _ _ (show w.heap.size ≠ (w.heap.size + 1 + 1 + 1) by omega)).trans fP15
   have fQ16 : (W15.setCell ⟨(w.heap.size + 1 + 1 + 1), 4, none⟩ (.slice a1 n1 c1)).heap[(w.heap.size + 1)]? = some (.cells #[.int .i64 t.ln, .int .i64 t.co] 28 (0, 0)) := (Below.heap_setCell W15 _ _ _ (show (w.heap.size + 1) ≠ (w.heap.size + 1 + 1 + 1) by omega)).trans fQ15
   have fR16 : (W15.setCell ⟨(w.heap.size + 1 + 1 + 1), 4, none⟩ (.slice a1 n1 c1)).heap[(w.heap.size + 1 + 1)]? = some (.cells #[.int .i64 0, .string ⟨#[]⟩, .string ⟨#[]⟩, .bool false, .slice none 0 0, .slice none 0 0, .slice none 0 0, .int .i64 0, .int .i64 0] 53 (0, 0)) := (Below.heap_setCell W15 _ _ _ (show (w.heap.size + 1 + 1) ≠ (w.heap.size + 1 + 1 + 1) by omega)).trans fR15
   have fS16 : (W15.setCell ⟨(w.heap.size + 1 + 1 + 1), 4, none⟩ (.slice a1 n1 c1)).heap[(w.heap.size + 1 + 1 + 1)]? = some (.cells #[.int .i64 k, .string NS, .string ⟨#[]⟩, .bool false, .slice a1 n1 c1, .slice none 0 0, .slice none 0 0, .int .i64 t.ln, .int .i64 t.co] 53 (0, 0)) := (dt.heap_setCell_at fS15 4 _).trans (by kernel_rfl)
   have fN16 : (W15.setCell ⟨(w.heap.size + 1 + 1 + 1), 4, none⟩ (.slice a1 n1 c1)).heap[W5.heap.size]? = some (.cells #[.string NS, .int .i64 x, .int .i64 y] 120 (0, 0)) := (Below.heap_setCell W15 _ _ _ (show W5.heap.size ≠ (w.heap.size + 1 + 1 + 1) by omega)).trans fN15
   have C16 := C15.outC (b := (w.heap.size + 1 + 1 + 1)) (by omega) (by omega) 4 (.slice a1 n1 c1)
   have K16 := K15.setB (b := (w.heap.size + 1 + 1 + 1)) (by omega) 4 (.slice a1 n1 c1)
   have sA16 := sA15.outC (b := (w.heap.size + 1 + 1 + 1)) (by omega) 4 (.slice a1 n1 c1)
   have cP18_0 : (W15.setCell ⟨(w.heap.size + 1 + 1 + 1), 4, none⟩ (.slice a1 n1 c1)).cell? ⟨w.heap.size, 0, none⟩ = some (.pointer (some ⟨B, 0, none⟩)) := (dt.cell_cells fP16 0).trans rfl
   have cS19_0 : (W15.setCell ⟨(w.heap.size + 1 + 1 + 1), 4, none⟩ (.slice a1 n1 c1)).cell? ⟨(w.heap.size + 1 + 1 + 1), 0, none⟩ = some (.int .i64 k) := (dt.cell_cells fS16 0).trans rfl
   have cS19_1 : (W15.setCell ⟨(w.heap.size + 1 + 1 + 1), 4, none⟩ (.slice a1 n1 c1)).cell? ⟨(w.heap.size + 1 + 1 + 1), 1, none⟩ = some (.string NS) := (dt.cell_cells fS16 1).trans rfl
   have cS19_2 : (W15.setCell ⟨(w.heap.size + 1 + 1 + 1), 4, none⟩ (.slice a1 n1 c1)).cell? ⟨(w.heap.size + 1 + 1 + 1), 2, none⟩ = some (.string ⟨#[]⟩) := (dt.cell_cells fS16 2).trans rfl
   have cS19_3 : (W15.setCell ⟨(w.heap.size + 1 + 1 + 1), 4, none⟩ (.slice a1 n1 c1)).cell? ⟨(w.heap.size + 1 + 1 + 1), 3, none⟩ = some (.bool false) := (dt.cell_cells fS16 3).trans rfl
   have cS19_4 : (W15.setCell ⟨(w.heap.size + 1 + 1 + 1), 4, none⟩ (.slice a1 n1 c1)).cell? ⟨(w.heap.size + 1 + 1 + 1), 4, none⟩ = some (.slice a1 n1 c1) := (dt.cell_cells fS16 4).trans rfl
   have cS19_5 : (W15.setCell ⟨(w.heap.size + 1 + 1 + 1), 4, none⟩ (.slice a1 n1 c1)).cell? ⟨(w.heap.size + 1 + 1 + 1), 5, none⟩ = some (.slice none 0 0) := (dt.cell_cells fS16 5).trans rfl
   have cS19_6 : (W15.setCell ⟨(w.heap.size + 1 + 1 + 1), 4, none⟩ (.slice a1 n1 c1)).cell? ⟨(w.heap.size + 1 + 1 + 1), 6, none⟩ = some (.slice none 0 0) := (dt.cell_cells fS16 6).trans rfl
   have cS19_7 : (W15.setCell ⟨(w.heap.size + 1 + 1 + 1), 4, none⟩ (.slice a1 n1 c1)).cell? ⟨(w.heap.size + 1 + 1 + 1), 7, none⟩ = some (.int .i64 t.ln) := (dt.cell_cells fS16 7).trans rfl
   have cS19_8 : (W15.setCell ⟨(w.heap.size + 1 + 1 + 1), 4, none⟩ (.slice a1 n1 c1)).cell? ⟨(w.heap.size + 1 + 1 + 1), 8, none⟩ = some (.int .i64 t.co) := (dt.cell_cells fS16 8).trans rfl
   have HH20 := hide (And.intro fP16 (And.intro fQ16 (And.intro fR16 (And.intro fS16 (And.intro fN16 (And.intro sA16 (And.intro C16 (And.intro K16 (And.intro fP15 (And.intro fQ15 (And.intro fR15 (And.intro fS15 (And.intro fN15 (And.intro sA15 (And.intro K15 (C15))))))))))))))))
   clear fP16 fQ16 fR16 fS16 fN16 sA16 C16 K16 fP15 fQ15 fR15 fS15 fN15 sA15 K15 C15
   go_wp2_with fail
   obtain ⟨fP16, fQ16, fR16, fS16, fN16, sA16, C16, K16, fP15, fQ15, fR15, fS15, fN15, sA15, K15, C15⟩ := unhide HH20
   clear HH20
   obtain ⟨W21, hW21⟩ : ∃ W21, W21 = (W15.setCell ⟨(w.heap.size + 1 + 1 + 1), 4, none⟩ (.slice a1 n1 c1)) := ⟨_, rfl⟩
   rw [← hW21] at fP16 fQ16 fR16 fS16 fN16 sA16 C16 K16 ⊢
   have sz21 : W15.heap.size + 0 ≤ W21.heap.size := by rw [hW21]; simp only [size_setC, dt.size_setCells, World.size_alloc]; exact Nat.le_refl _
   clear hW21 cS17_4 zS17_4 cP18_0 cS19_0 cS19_1 cS19_2 cS19_3 cS19_4 cS19_5 cS19_6 cS19_7 cS19_8 fP15 fQ15 fR15 fS15 fN15 sA15 K15 C15
   have hsv := sA16.hi'
   clear sA16
   refine ((unhide hb2) a1 n1 c1 _ _ F1 _ C16 (by omega) (by omega) hsv).mono ?_
   rintro e W22 ⟨cs, F, rfl, hsp, hown, C22, J22⟩
   have sz22 := J22.size
   have fP22 : W22.heap[w.heap.size]? = some (.cells #[.pointer (some ⟨B, 0, none⟩)] 83 (0, 0)) := (J22.block _ (by omega) (by omega)).trans fP16
   have fQ22 : W22.heap[(w.heap.size + 1)]? = some (.cells #[.int .i64 t.ln, .int .i64 t.co] 28 (0, 0)) := (J22.block _ (by omega) (by omega)).trans fQ16
   have fR22 : W22.heap[(w.heap.size + 1 + 1)]? = some (.cells #[.int .i64 0, .string ⟨#[]⟩, .string ⟨#[]⟩, .bool false, .slice none 0 0, .slice none 0 0, .slice none 0 0, .int .i64 0, .int .i64 0] 53 (0, 0)) := (J22.block _ (by omega) (by omega)).trans fR16
   have fS22 : W22.heap[(w.heap.size + 1 + 1 + 1)]? = some (.cells #[.int .i64 k, .string NS, .string ⟨#[]⟩, .bool false, .slice a1 n1 c1, .slice none 0 0, .slice none 0 0, .int .i64 t.ln, .int .i64 t.co] 53 (0, 0)) := (J22.block _ (by omega) (by omega)).trans fS16
   have fN22 : W22.heap[W5.heap.size]? = some (.cells #[.string NS, .int .i64 x, .int .i64 y] 120 (0, 0)) := (J22.block _ (by omega) (by omega)).trans fN16
   have K22 := K16.trans J22
   clear fP16 fQ16 fR16 fS16 fN16 K16 C16 J22
   obtain ⟨z1, z2, z3, z4, z5, z6, rfl⟩ := hsp
   have HT := hide (dt.there_cells fR22 (o := 0) (n := 9) (by decide))
   have HF := hide (And.intro C22 (And.intro K22 hown))
   clear C22 K22 hown
   go_wp2_with (first
    | refine wpList_store_mid (by rfl) 53 _ _ (by rfl) (w.heap.size + 1 + 1) 0 (defC k NS em false a1 n1 c1 z1 z2 z3 z4 z5 z6 t.ln t.co).toArray (by rfl) (by rfl) (unhide HT) infoDef (dt.one_cells (cs := defC k NS em false a1 n1 c1 z1 z2 z3 z4 z5 z6 t.ln t.co) (by rfl)) ?_)
   refine bodyPost_ret (rgn.result_row_tmp rfl _ _ (w.heap.size + 1 + 1) 0 (defC k NS em false a1 n1 c1 z1 z2 z3 z4 z5 z6 t.ln t.co) _ rfl (World.rangeAt_setCells_same _ _ _ _ (unhide HT)) Tryz.underlying53 rfl infoDef) rfl ?_
   obtain ⟨hC, hK, hown⟩ := unhide HF
   rw [unhide HV]
   exact ⟨_, F, rfl, ⟨⟨_, _, _, _, _, _, _, _, _, _, _, _, _, _, _, rfl⟩, fun d e => let hh := hown d e; ⟨ow_out hh.1 (fun hb => by have := (hh.2.2 _ hb).1; omega) 0 _, hh.2.1, fun b hb => ⟨by have := (hh.2.2 b hb).1; omega, by rw [dt.size_setCells]; exact (hh.2.2 b hb).2⟩⟩⟩, hC.out (by omega) (by omega) _ _, hK.out (by omega) _ _⟩
 ·obtain rfl : O = c := by have := unhide hoc; rw [if_neg hk3] at this; exact this
  obtain rfl : NS = em := (unhide hn3) hk3
  clear hoc hn3 hn
  have cP3_0 : W2.cell? ⟨w.heap.size, 0, none⟩ = some (.pointer (some ⟨B, 0, none⟩)) := (dt.cell_cells fP2 0).trans rfl
  have HH4 := hide (And.intro fP2 (And.intro fQ2 (And.intro fR2 (And.intro fS2 (And.intro C2 (K2))))))
  clear fP2 fQ2 fR2 fS2 C2 K2
  go_wp2_with fail
  obtain ⟨fP2, fQ2, fR2, fS2, C2, K2⟩ := unhide HH4
  clear HH4
  refine ((unhide hip) _ C2).mono ?_
  rintro e W5 ⟨rfl, bb5⟩
  have J5 : Kp B W2 W5 := Kp.of bb5
  have C5 := C2.below bb5
  have sz5 := J5.size
  have fP5 : W5.heap[w.heap.size]? = some (.cells #[.pointer (some ⟨B, 0, none⟩)] 83 (0, 0)) := (J5.block _ (by omega) (by omega)).trans fP2
  have fQ5 : W5.heap[(w.heap.size + 1)]? = some (.cells #[.int .i64 t.ln, .int .i64 t.co] 28 (0, 0)) := (J5.block _ (by omega) (by omega)).trans fQ2
  have fR5 : W5.heap[(w.heap.size + 1 + 1)]? = some (.cells #[.int .i64 0, .string ⟨#[]⟩, .string ⟨#[]⟩, .bool false, .slice none 0 0, .slice none 0 0, .slice none 0 0, .int .i64 0, .int .i64 0] 53 (0, 0)) := (J5.block _ (by omega) (by omega)).trans fR2
  have fS5 : W5.heap[(w.heap.size + 1 + 1 + 1)]? = some (.cells #[.int .i64 k, .string ⟨#[]⟩, .string ⟨#[]⟩, .bool false, .slice none 0 0, .slice none 0 0, .slice none 0 0, .int .i64 t.ln, .int .i64 t.co] 53 (0, 0)) := (J5.block _ (by omega) (by omega)).trans fS2
  have K5 := K2.trans J5
  clear fP2 fQ2 fR2 fS2 K2 C2 J5 cP3_0
  clear hip
  cases IP
  ·have hx := unhide hvs
   simp only [Bool.false_eq_true, if_false, Prod.mk.injEq] at hx
   obtain ⟨rfl, rfl⟩ := hx
   clear hvs hv
   have cP6_0 : W5.cell? ⟨w.heap.size, 0, none⟩ = some (.pointer (some ⟨B, 0, none⟩)) := (dt.cell_cells fP5 0).trans rfl
   have cS7_0 : W5.cell? ⟨(w.heap.size + 1 + 1 + 1), 0, none⟩ = some (.int .i64 k) := (dt.cell_cells fS5 0).trans rfl
   have cS7_1 : W5.cell? ⟨(w.heap.size + 1 + 1 + 1), 1, none⟩ = some (.string ⟨#[]⟩) := (dt.cell_cells fS5 1).trans rfl
   have cS7_2 : W5.cell? ⟨(w.heap.size + 1 + 1 + 1), 2, none⟩ = some (.string ⟨#[]⟩) := (dt.cell_cells fS5 2).trans rfl
   have cS7_3 : W5.cell? ⟨(w.heap.size + 1 + 1 + 1), 3, none⟩ = some (.bool false) := (dt.cell_cells fS5 3).trans rfl
   have cS7_4 : W5.cell? ⟨(w.heap.size + 1 + 1 + 1), 4, none⟩ = some (.slice none 0 0) := (dt.cell_cells fS5 4).trans rfl
   have cS7_5 : W5.cell? ⟨(w.heap.size + 1 + 1 + 1), 5, none⟩ = some (.slice none 0 0) := (dt.cell_cells fS5 5).trans rfl
   have cS7_6 : W5.cell? ⟨(w.heap.size + 1 + 1 + 1), 6, none⟩ = some (.slice none 0 0) := (dt.cell_cells fS5 6).trans rfl
   have cS7_7 : W5.cell? ⟨(w.heap.size + 1 + 1 + 1), 7, none⟩ = some (.int .i64 t.ln) := (dt.cell_cells fS5 7).trans rfl
   have cS7_8 : W5.cell? ⟨(w.heap.size + 1 + 1 + 1), 8, none⟩ = some (.int .i64 t.co) := (dt.cell_cells fS5 8).trans rfl
   have HH8 := hide (And.intro fP5 (And.intro fQ5 (And.intro fR5 (And.intro fS5 (And.intro C5 (K5))))))
   clear fP5 fQ5 fR5 fS5 C5 K5
   go_wp2_with fail
   obtain ⟨fP5, fQ5, fR5, fS5, C5, K5⟩ := unhide HH8
   clear HH8
   refine ((unhide hb2) none 0 0 _ [] [] _ C5 (Nat.le_refl _) (by omega) (Sh.nil (Nat.le_refl _))).mono ?_
   rintro e W9 ⟨cs, F, rfl, hsp, hown, C9, J9⟩
   have sz9 := J9.size
   have fP9 : W9.heap[w.heap.size]? = some (.cells #[.pointer (some ⟨B, 0, none⟩)] 83 (0, 0)) := (J9.block _ (by omega) (by omega)).trans fP5
   have fQ9 : W9.heap[(w.heap.size + 1)]? = some (.cells #[.int .i64 t.ln, .int .i64 t.co] 28 (0, 0)) := (J9.block _ (by omega) (by omega)).trans fQ5
   have fR9 : W9.heap[(w.heap.size + 1 + 1)]? = some (.cells #[.int .i64 0, .string ⟨#[]⟩, .string ⟨#[]⟩, .bool false, .slice none 0 0, .slice none 0 0, .slice none 0 0, .int .i64 0, .int .i64 0] 53 (0, 0)) := (J9.block _ (by omega) (by omega)).trans fR5
   have fS9 : W9.heap[(w.heap.size + 1 + 1 + 1)]? = some (.cells #[.int .i64 k, .string ⟨#[]⟩, .string ⟨#[]⟩, .bool false, .slice none 0 0, .slice none 0 0, .slice none 0 0, .int .i64 t.ln, .int .i64 t.co] 53 (0, 0)) := (J9.block _ (by omega) (by omega)).trans fS5
   have K9 := K5.trans J9
   clear fP5 fQ5 fR5 fS5 K5 C5 J9 cP6_0 cS7_0 cS7_1 cS7_2 cS7_3 cS7_4 cS7_5 cS7_6 cS7_7 cS7_8
   obtain ⟨z1, z2, z3, z4, z5, z6, rfl⟩ := hsp
   have HT := hide (dt.there_cells fR9 (o := 0) (n := 9) (by decide))
   have HF := hide (And.intro C9 (And.intro K9 hown))
   clear C9 K9 hown
   go_wp2_with (first
    | refine wpList_store_mid (by rfl) 53 _ _ (by rfl) (w.heap.size + 1 + 1) 0 (defC k em em false none 0 0 z1 z2 z3 z4 z5 z6 t.ln t.co).toArray (by rfl) (by rfl) (unhide HT) infoDef (dt.one_cells (cs := defC k em em false none 0 0 z1 z2 z3 z4 z5 z6 t.ln t.co) (by rfl)) ?_)
   refine bodyPost_ret (rgn.result_row_tmp rfl _ _ (w.heap.size + 1 + 1) 0 (defC k em em false none 0 0 z1 z2 z3 z4 z5 z6 t.ln t.co) _ rfl (World.rangeAt_setCells_same _ _ _ _ (unhide HT)) Tryz.underlying53 rfl infoDef) rfl ?_
   obtain ⟨hC, hK, hown⟩ := unhide HF
   rw [unhide HV]
   exact ⟨_, F, rfl, ⟨⟨_, _, _, _, _, _, _, _, _, _, _, _, _, _, _, rfl⟩, fun d e => let hh := hown d e; ⟨ow_out hh.1 (fun hb => by have := (hh.2.2 _ hb).1; omega) 0 _, hh.2.1, fun b hb => ⟨by have := (hh.2.2 b hb).1; omega, by rw [dt.size_setCells]; exact (hh.2.2 b hb).2⟩⟩⟩, hC.out (by omega) (by omega) _ _, hK.out (by omega) _ _⟩
  ·have hx := unhide hvs
   simp only [if_true] at hx
   subst hx
   clear hvs
   have cP6_0 : W5.cell? ⟨w.heap.size, 0, none⟩ = some (.pointer (some ⟨B, 0, none⟩)) := (dt.cell_cells fP5 0).trans rfl
   have HH7 := hide (And.intro fP5 (And.intro fQ5 (And.intro fR5 (And.intro fS5 (And.intro C5 (K5))))))
   clear fP5 fQ5 fR5 fS5 C5 K5
   go_wp2_with fail
   obtain ⟨fP5, fQ5, fR5, fS5, C5, K5⟩ := unhide HH7
   clear HH7
   refine ((unhide hv) (by first | rfl | trivial) _ C5).mono ?_
   rintro e W8 ⟨sl, rfl, hbp, C8, J8⟩
   have sz8 := J8.size
   have fP8 : W8.heap[w.heap.size]? = some (.cells #[.pointer (some ⟨B, 0, none⟩)] 83 (0, 0)) := (J8.block _ (by omega) (by omega)).trans fP5
   have fQ8 : W8.heap[(w.heap.size + 1)]? = some (.cells #[.int .i64 t.ln, .int .i64 t.co] 28 (0, 0)) := (J8.block _ (by omega) (by omega)).trans fQ5
   have fR8 : W8.heap[(w.heap.size + 1 + 1)]? = some (.cells #[.int .i64 0, .string ⟨#[]⟩, .string ⟨#[]⟩, .bool false, .slice none 0 0, .slice none 0 0, .slice none 0 0, .int .i64 0, .int .i64 0] 53 (0, 0)) := (J8.block _ (by omega) (by omega)).trans fR5
   have fS8 : W8.heap[(w.heap.size + 1 + 1 + 1)]? = some (.cells #[.int .i64 k, .string ⟨#[]⟩, .string ⟨#[]⟩, .bool false, .slice none 0 0, .slice none 0 0, .slice none 0 0, .int .i64 t.ln, .int .i64 t.co] 53 (0, 0)) := (J8.block _ (by omega) (by omega)).trans fS5
   have K8 := K5.trans J8
   clear fP5 fQ5 fR5 fS5 K5 C5 J8 cP6_0
   have loV := sz8
   obtain ⟨a1, n1, c1, F1, rfl, sA8⟩ := brkV_form hbp
   clear hbp hv
   have cS10_4 : W8.cell? ⟨(w.heap.size + 1 + 1 + 1), 4, none⟩ = some (.slice none 0 0) := (dt.cell_cells fS8 4).trans rfl
   have zS10_4 : W8.frozen? ⟨(w.heap.size + 1 + 1 + 1), 4, none⟩ = false := dt.frozen_cells fS8 4
   have fP9 : (W8.setCell ⟨(w.heap.size + 1 + 1 + 1), 4, none⟩ (.slice a1 n1 c1)).heap[w.heap.size]? = some (.cells #[.pointer (some ⟨B, 0, none⟩)] 83 (0, 0)) := (Below.heap_setCell W8 _ _ _ (show w.heap.size ≠ (w.heap.size + 1 + 1 + 1) by omega)).trans fP8
   have fQ9 : (W8.setCell ⟨(w.heap.size + 1 + 1 + 1), 4, none⟩ (.slice a1 n1 c1)).heap[(w.heap.size + 1)]? = some (.cells #[.int .i64 t.ln, .int .i64 t.co] 28 (0, 0)) := (Below.heap_setCell W8 _ _ _ (show (w.heap.size + 1) ≠ (w.heap.size + 1 + 1 + 1) by omega)).trans fQ8
   have fR9 : (W8.setCell ⟨(w.heap.size + 1 + 1 + 1), 4, none⟩ (.slice a1 n1 c1)).heap[(w.heap.size + 1 + 1)]? = some (.cells #[.int .i64 0, .string ⟨#[]⟩, .string ⟨#[]⟩, .bool false, .slice none 0 0, .slice none 0 0, .slice none 0 0, .int .i64 0, .int .i64 0] 53 (0, 0)) := (Below.heap_setCell W8 _ _ _ (show (w.heap.size + 1 + 1) ≠ (w.heap.size + 1 + 1 + 1) by omega)).trans fR8
   have fS9 : (W8.setCell ⟨(w.heap.size + 1 + 1 + 1), 4, none⟩ (.slice a1 n1 c1)).heap[(w.heap.size + 1 + 1 + 1)]? = some (.cells #[.int .i64 k, .string ⟨#[]⟩, .string ⟨#[]⟩, .bool false, .slice a1 n1 c1, .slice none 0 0, .slice none 0 0, .int .i64 t.ln, .int .i64 t.co] 53 (0, 0)) := (dt.heap_setCell_at fS8 4 _).trans (by kernel_rfl)
   have C9 := C8.outC (b := (w.heap.size + 1 + 1 + 1)) (by omega) (by omega) 4 (.slice a1 n1 c1)
   have K9 := K8.setB (b := (w.heap.size + 1 + 1 + 1)) (by omega) 4 (.slice a1 n1 c1)
   have sA9 := sA8.outC (b := (w.heap.size + 1 + 1 + 1)) (by omega) 4 (.slice a1 n1 c1)
   have cP11_0 : (W8.setCell ⟨(w.heap.size + 1 + 1 + 1), 4, none⟩ (.slice a1 n1 c1)).cell? ⟨w.heap.size, 0, none⟩ = some (.pointer (some ⟨B, 0, none⟩)) := (dt.cell_cells fP9 0).trans rfl
   have cS12_0 : (W8.setCell ⟨(w.heap.size + 1 + 1 + 1), 4, none⟩ (.slice a1 n1 c1)).cell? ⟨(w.heap.size + 1 + 1 + 1), 0, none⟩ = some (.int .i64 k) := (dt.cell_cells fS9 0).trans rfl
   have cS12_1 : (W8.setCell ⟨(w.heap.size + 1 + 1 + 1), 4, none⟩ (.slice a1 n1 c1)).cell? ⟨(w.heap.size + 1 + 1 + 1), 1, none⟩ = some (.string ⟨#[]⟩) := (dt.cell_cells fS9 1).trans rfl
   have cS12_2 : (W8.setCell ⟨(w.heap.size + 1 + 1 + 1), 4, none⟩ (.slice a1 n1 c1)).cell? ⟨(w.heap.size + 1 + 1 + 1), 2, none⟩ = some (.string ⟨#[]⟩) := (dt.cell_cells fS9 2).trans rfl
   have cS12_3 : (W8.setCell ⟨(w.heap.size + 1 + 1 + 1), 4, none⟩ (.slice a1 n1 c1)).cell? ⟨(w.heap.size + 1 + 1 + 1), 3, none⟩ = some (.bool false) := (dt.cell_cells fS9 3).trans rfl
   have cS12_4 : (W8.setCell ⟨(w.heap.size + 1 + 1 + 1), 4, none⟩ (.slice a1 n1 c1)).cell? ⟨(w.heap.size + 1 + 1 + 1), 4, none⟩ = some (.slice a1 n1 c1) := (dt.cell_cells fS9 4).trans rfl
   have cS12_5 : (W8.setCell ⟨(w.heap.size + 1 + 1 + 1), 4, none⟩ (.slice a1 n1 c1)).cell? ⟨(w.heap.size + 1 + 1 + 1), 5, none⟩ = some (.slice none 0 0) := (dt.cell_cells fS9 5).trans rfl
   have cS12_6 : (W8.setCell ⟨(w.heap.size + 1 + 1 + 1), 4, none⟩ (.slice a1 n1 c1)).cell? ⟨(w.heap.size + 1 + 1 + 1), 6, none⟩ = some (.slice none 0 0) := (dt.cell_cells fS9 6).trans rfl
   have cS12_7 : (W8.setCell ⟨(w.heap.size + 1 + 1 + 1), 4, none⟩ (.slice a1 n1 c1)).cell? ⟨(w.heap.size + 1 + 1 + 1), 7, none⟩ = some (.int .i64 t.ln) := (dt.cell_cells fS9 7).trans rfl
   have cS12_8 : (W8.setCell ⟨(w.heap.size + 1 + 1 + 1), 4, none⟩ (.slice a1 n1 c1)).cell? ⟨(w.heap.size + 1 + 1 + 1), 8, none⟩ = some (.int .i64 t.co) := (dt.cell_cells fS9 8).trans rfl
   have HH13 := hide (And.intro fP9 (And.intro fQ9 (And.intro fR9 (And.intro fS9 (And.intro sA9 (And.intro C9 (And.intro K9 (And.intro fP8 (And.intro fQ8 (And.intro fR8 (And.intro fS8 (And.intro sA8 (And.intro K8 (C8))))))))))))))
   clear fP9 fQ9 fR9 fS9 sA9 C9 K9 fP8 fQ8 fR8 fS8 sA8 K8 C8
   go_wp2_with fail
   obtain ⟨fP9, fQ9, fR9, fS9, sA9, C9, K9, fP8, fQ8, fR8, fS8, sA8, K8, C8⟩ := unhide HH13
   clear HH13
   obtain ⟨W14, hW14⟩ : ∃ W14, W14 = (W8.setCell ⟨(w.heap.size + 1 + 1 + 1), 4, none⟩ (.slice a1 n1 c1)) := ⟨_, rfl⟩
   rw [← hW14] at fP9 fQ9 fR9 fS9 sA9 C9 K9 ⊢
   have sz14 : W8.heap.size + 0 ≤ W14.heap.size := by rw [hW14]; simp only [size_setC, dt.size_setCells, World.size_alloc]; exact Nat.le_refl _
   clear hW14 cS10_4 zS10_4 cP11_0 cS12_0 cS12_1 cS12_2 cS12_3 cS12_4 cS12_5 cS12_6 cS12_7 cS12_8 fP8 fQ8 fR8 fS8 sA8 K8 C8
   have hsv := sA9.hi'
   clear sA9
   refine ((unhide hb2) a1 n1 c1 _ _ F1 _ C9 (by omega) (by omega) hsv).mono ?_
   rintro e W15 ⟨cs, F, rfl, hsp, hown, C15, J15⟩
   have sz15 := J15.size
   have fP15 : W15.heap[w.heap.size]? = some (.cells #[.pointer (some ⟨B, 0, none⟩)] 83 (0, 0)) := (J15.block _ (by omega) (by omega)).trans fP9
   have fQ15 : W15.heap[(w.heap.size + 1)]? = some (.cells #[.int .i64 t.ln, .int .i64 t.co] 28 (0, 0)) := (J15.block _ (by omega) (by omega)).trans fQ9
   have fR15 : W15.heap[(w.heap.size + 1 + 1)]? = some (.cells #[.int .i64 0, .string ⟨#[]⟩, .string ⟨#[]⟩, .bool false, .slice none 0 0, .slice none 0 0, .slice none 0 0, .int .i64 0, .int .i64 0] 53 (0, 0)) := (J15.block _ (by omega) (by omega)).trans fR9
   have fS15 : W15.heap[(w.heap.size + 1 + 1 + 1)]? = some (.cells #[.int .i64 k, .string ⟨#[]⟩, .string ⟨#[]⟩, .bool false, .slice a1 n1 c1, .slice none 0 0, .slice none 0 0, .int .i64 t.ln, .int .i64 t.co] 53 (0, 0)) := (J15.block _ (by omega) (by omega)).trans fS9
   have K15 := K9.trans J15
   clear fP9 fQ9 fR9 fS9 K9 C9 J15
   obtain ⟨z1, z2, z3, z4, z5, z6, rfl⟩ := hsp
   have HT := hide (dt.there_cells fR15 (o := 0) (n := 9) (by decide))
   have HF := hide (And.intro C15 (And.intro K15 hown))
   clear C15 K15 hown
   go_wp2_with (first
    | refine wpList_store_mid (by rfl) 53 _ _ (by rfl) (w.heap.size + 1 + 1) 0 (defC k em em false a1 n1 c1 z1 z2 z3 z4 z5 z6 t.ln t.co).toArray (by rfl) (by rfl) (unhide HT) infoDef (dt.one_cells (cs := defC k em em false a1 n1 c1 z1 z2 z3 z4 z5 z6 t.ln t.co) (by rfl)) ?_)
   refine bodyPost_ret (rgn.result_row_tmp rfl _ _ (w.heap.size + 1 + 1) 0 (defC k em em false a1 n1 c1 z1 z2 z3 z4 z5 z6 t.ln t.co) _ rfl (World.rangeAt_setCells_same _ _ _ _ (unhide HT)) Tryz.underlying53 rfl infoDef) rfl ?_
   obtain ⟨hC, hK, hown⟩ := unhide HF
   rw [unhide HV]
   exact ⟨_, F, rfl, ⟨⟨_, _, _, _, _, _, _, _, _, _, _, _, _, _, _, rfl⟩, fun d e => let hh := hown d e; ⟨ow_out hh.1 (fun hb => by have := (hh.2.2 _ hb).1; omega) 0 _, hh.2.1, fun b hb => ⟨by have := (hh.2.2 b hb).1; omega, by rw [dt.size_setCells]; exact (hh.2.2 b hb).2⟩⟩⟩, hC.out (by omega) (by omega) _ _, hK.out (by omega) _ _⟩
def FragAt (ln co : Int) (R : Option Dt × Cu) (c : Cu) : Prop := ∀ (B p : Nat) (w : World), CurAt w B p c → Calls Tryz.prog 56 #[par B, .agg #[.int .i64 ln, .int .i64 co]] w fun e w' => ∃ cs F, e = .returned (.tuple #[.agg cs.toArray, .bool R.1.isSome]) ∧ DefPost R.1 w w' cs F ∧ CurAt w' B p R.2 ∧ Kp B w w'
set_option maxRecDepth 4000 in
set_option maxHeartbeats 1500000 in
theorem fragment_ok (L : LitR) (S : LstR) (t : Tk) (c : Cu) (hc0 : c.Ok) (hB : BodyAt 4 (c.nmB (c.isN && !inW [bOn] c.tok.tx)) (fragO (fragC c)).nmS none 0 0 t.ln t.co (fun c' vs => bodyS L S 4 (c.nmB (c.isN && !inW [bOn] c.tok.tx)) (fragO (fragC c)).nmS vs t c') (fragO (fragC c)).name) : FragAt t.ln t.co (fragS L S t c) c := by
 intro B p w h
 have hlt := h.lt
 have hplt := h.plt
 have hn := hide (fun W (hc : CurAt W B p c) b (hw : Wds W b 1 1 [bOn]) => nameBut_ok B p c b 1 1 [bOn] W hc hw (by omega))
 have hw2 := hide (fun W (hc : CurAt W B p (fragC c)) b (hw : Wds W b 1 1 [bOn]) => wantWord_ok B p (fragC c) b 1 1 [bOn] W hc hw (by omega))
 have hn2 := hide (fun W (hc : CurAt W B p (fragO (fragC c))) => nameAny_ok B p (fragO (fragC c)) W hc)
 have hb := hide (fun W F1 lo (hc : CurAt W B p (fragO (fragC c)).name) => hB B p W [] F1 lo hc)
 have hVV : fragS L S t c = bodyS L S 4 (c.nmB (c.isN && !inW [bOn] c.tok.tx)) (fragO (fragC c)).nmS [] t (fragO (fragC c)).name := rfl
 obtain ⟨V, hVe⟩ : ∃ V, V = fragS L S t c := ⟨_, rfl⟩
 rw [← hVe] at hVV ⊢
 simp only at hb
 rw [← hVV] at hb
 rw [nmT_form] at hn2
 have hm2 := hide (show (fragO (fragC c)).nmS = if (fragO (fragC c)).isN then (fragO (fragC c)).tok.tx else em from rfl)
 obtain ⟨on, hon⟩ : ∃ on, on = if (fragO (fragC c)).isN then (fragO (fragC c)).tok.tx else em := ⟨_, rfl⟩
 rw [← hon] at hn2 hm2
 obtain ⟨x2, hx2⟩ : ∃ x, x = if (fragO (fragC c)).isN then (fragO (fragC c)).tok.ln else 0 := ⟨_, rfl⟩
 obtain ⟨y2, hy2⟩ : ∃ y, y = if (fragO (fragC c)).isN then (fragO (fragC c)).tok.co else 0 := ⟨_, rfl⟩
 rw [← hx2, ← hy2] at hn2
 obtain ⟨o2, ho2⟩ : ∃ o2, o2 = (fragO (fragC c)).nmS := ⟨_, rfl⟩
 rw [← ho2] at hb hm2
 obtain rfl : o2 = on := unhide hm2
 obtain ⟨N2, hN2⟩ : ∃ N2, N2 = (fragO (fragC c)).name := ⟨_, rfl⟩
 rw [← hN2] at hn2 hb
 obtain ⟨b2, hb2⟩ : ∃ b2, b2 = (fragO (fragC c)).isN := ⟨_, rfl⟩
 rw [← hb2] at hn2
 have hfo := hide (show (fragC c).nmC ((fragC c).isW [bOn]) = fragO (fragC c) from rfl)
 obtain ⟨FO, hFO⟩ : ∃ FO, FO = fragO (fragC c) := ⟨_, rfl⟩
 rw [← hFO] at hn2 hfo
 obtain ⟨MC, hMC⟩ : ∃ MC, MC = (fragC c).nmC ((fragC c).isW [bOn]) := ⟨_, rfl⟩
 rw [← hMC] at hw2 hfo
 obtain rfl : MC = FO := unhide hfo
 have h3 : ∃ x y z, nmV (fragC c).tok ((fragC c).isW [bOn]) = [.string x, .int .i64 y, .int .i64 z] := by unfold nmV; cases (fragC c).isW [bOn]; exact ⟨_, _, _, rfl⟩; exact ⟨_, _, _, rfl⟩
 obtain ⟨w1, w2, w3, h3⟩ := h3
 rw [h3] at hw2
 obtain ⟨b1, hb1⟩ : ∃ b1, b1 = (fragC c).isW [bOn] := ⟨_, rfl⟩
 rw [← hb1] at hw2
 have hfc := hide (show c.nmC (c.isN && !inW [bOn] c.tok.tx) = fragC c from rfl)
 obtain ⟨FC, hFC⟩ : ∃ FC, FC = fragC c := ⟨_, rfl⟩
 rw [← hFC] at hw2 hfc
 obtain ⟨so, hso⟩ : ∃ so, so = (c.isN && !inW [bOn] c.tok.tx) := ⟨_, rfl⟩
 rw [← hso] at hn hb hfc
 obtain ⟨NC, hNC⟩ : ∃ NC, NC = c.nmC so := ⟨_, rfl⟩
 rw [← hNC] at hn hfc
 obtain rfl : NC = FC := unhide hfc
 obtain ⟨nt, hnt⟩ : ∃ nt, nt = c.nmB so := ⟨_, rfl⟩
 rw [← hnt] at hb
 have h4 : ∃ x y, nmV c.tok so = [.string nt, .int .i64 x, .int .i64 y] := by rw [hnt]; unfold nmV Cu.nmB; cases so; exact ⟨_, _, rfl⟩; exact ⟨_, _, rfl⟩
 obtain ⟨x1, y1, h4⟩ := h4
 rw [h4] at hn
 clear hB hVV hVe hon hx2 hy2 ho2 hm2 hN2 hb2 hFO hMC hfo h3 hb1 hFC hso hNC hfc hnt h4
 unfold ptr at hn hw2 hn2
 unfold par at hb ⊢
 go_enter Tryz.func56, Tryz.ntmps56
 go_wp2_with fail
 obtain ⟨W1, hW1⟩ : ∃ W1, W1 = allocs w [(#[.pointer (some ⟨B, 0, none⟩)], 83), (#[.int .i64 t.ln, .int .i64 t.co], 28), (#[.int .i64 0, .string ⟨#[]⟩, .string ⟨#[]⟩, .bool false, .slice none 0 0, .slice none 0 0, .slice none 0 0, .int .i64 0, .int .i64 0], 53), (#[.string ⟨#[111, 110]⟩], 9)] := ⟨_, rfl⟩
 have gW1 : W1 = ((((w.alloc (.cells #[.pointer (some ⟨B, 0, none⟩)] 83)).alloc (.cells #[.int .i64 t.ln, .int .i64 t.co] 28)).alloc (.cells #[.int .i64 0, .string ⟨#[]⟩, .string ⟨#[]⟩, .bool false, .slice none 0 0, .slice none 0 0, .slice none 0 0, .int .i64 0, .int .i64 0] 53)).alloc (.cells #[.string ⟨#[111, 110]⟩] 9)) := hW1
 have aa := allocs_at [(#[.pointer (some ⟨B, 0, none⟩)], 83), (#[.int .i64 t.ln, .int .i64 t.co], 28), (#[.int .i64 0, .string ⟨#[]⟩, .string ⟨#[]⟩, .bool false, .slice none 0 0, .slice none 0 0, .slice none 0 0, .int .i64 0, .int .i64 0], 53), (#[.string ⟨#[111, 110]⟩], 9)] w
 have fP1 : W1.heap[w.heap.size]? = some (.cells #[.pointer (some ⟨B, 0, none⟩)] 83 (0, 0)) := by rw [hW1]; exact aa 0 _ rfl
 have fQ1 : W1.heap[(w.heap.size + 1)]? = some (.cells #[.int .i64 t.ln, .int .i64 t.co] 28 (0, 0)) := by rw [hW1]; exact aa 1 _ rfl
 have fR1 : W1.heap[(w.heap.size + 1 + 1)]? = some (.cells #[.int .i64 0, .string ⟨#[]⟩, .string ⟨#[]⟩, .bool false, .slice none 0 0, .slice none 0 0, .slice none 0 0, .int .i64 0, .int .i64 0] 53 (0, 0)) := by rw [hW1]; exact aa 2 _ rfl
 have fX1 : W1.heap[(w.heap.size + 1 + 1 + 1)]? = some (.cells #[.string ⟨#[111, 110]⟩] 9 (0, 0)) := by rw [hW1]; exact aa 3 _ rfl
 have bw : Below w.heap.size w W1 := by rw [hW1]; exact allocs_below _ _
 have sz1 : w.heap.size + 4 ≤ W1.heap.size := by rw [hW1, allocs_size]; exact Nat.le_refl _
 have K1 : Kp B w W1 := Kp.of bw
 have C1 := h.below bw
 rw [← gW1]
 clear gW1 hW1 bw aa h
 refine ((unhide hn) _ C1 (w.heap.size + 1 + 1 + 1) ⟨rfl, by omega, by omega, fun i hi => by obtain rfl : i = 0 := (by omega); exact (dt.cell_cells fX1 0).trans rfl⟩).mono ?_
 rintro e W2 ⟨rfl, C2, J2⟩
 have sz2 := J2.size
 have fP2 : W2.heap[w.heap.size]? = some (.cells #[.pointer (some ⟨B, 0, none⟩)] 83 (0, 0)) := (J2.block _ (by omega) (by omega)).trans fP1
 have fQ2 : W2.heap[(w.heap.size + 1)]? = some (.cells #[.int .i64 t.ln, .int .i64 t.co] 28 (0, 0)) := (J2.block _ (by omega) (by omega)).trans fQ1
 have fR2 : W2.heap[(w.heap.size + 1 + 1)]? = some (.cells #[.int .i64 0, .string ⟨#[]⟩, .string ⟨#[]⟩, .bool false, .slice none 0 0, .slice none 0 0, .slice none 0 0, .int .i64 0, .int .i64 0] 53 (0, 0)) := (J2.block _ (by omega) (by omega)).trans fR1
 have fX2 : W2.heap[(w.heap.size + 1 + 1 + 1)]? = some (.cells #[.string ⟨#[111, 110]⟩] 9 (0, 0)) := (J2.block _ (by omega) (by omega)).trans fX1
 have K2 := K1.trans J2
 clear fP1 fQ1 fR1 fX1 K1 C1 J2
 clear hn
 have fP3 : (W2.alloc (.cells #[.string nt, .int .i64 x1, .int .i64 y1] 120)).heap[w.heap.size]? = some (.cells #[.pointer (some ⟨B, 0, none⟩)] 83 (0, 0)) := (Below.heap_alloc W2 _ _ (by omega)).trans fP2
 have fQ3 : (W2.alloc (.cells #[.string nt, .int .i64 x1, .int .i64 y1] 120)).heap[(w.heap.size + 1)]? = some (.cells #[.int .i64 t.ln, .int .i64 t.co] 28 (0, 0)) := (Below.heap_alloc W2 _ _ (by omega)).trans fQ2
 have fR3 : (W2.alloc (.cells #[.string nt, .int .i64 x1, .int .i64 y1] 120)).heap[(w.heap.size + 1 + 1)]? = some (.cells #[.int .i64 0, .string ⟨#[]⟩, .string ⟨#[]⟩, .bool false, .slice none 0 0, .slice none 0 0, .slice none 0 0, .int .i64 0, .int .i64 0] 53 (0, 0)) := (Below.heap_alloc W2 _ _ (by omega)).trans fR2
 have fN3 : (W2.alloc (.cells #[.string nt, .int .i64 x1, .int .i64 y1] 120)).heap[W2.heap.size]? = some (.cells #[.string nt, .int .i64 x1, .int .i64 y1] 120 (0, 0)) := heap_alloc_new _ _
 have bb3 : Below W2.heap.size W2 (W2.alloc (.cells #[.string nt, .int .i64 x1, .int .i64 y1] 120)) := (Below.refl _ _).alloc (Nat.le_refl _) _
 have C3 := C2.below bb3
 have K3 := K2.trans (Kp.of bb3)
 have cP4_0 : (W2.alloc (.cells #[.string nt, .int .i64 x1, .int .i64 y1] 120)).cell? ⟨w.heap.size, 0, none⟩ = some (.pointer (some ⟨B, 0, none⟩)) := (dt.cell_cells fP3 0).trans rfl
 have fP5 : ((W2.alloc (.cells #[.string nt, .int .i64 x1, .int .i64 y1] 120)).alloc (.cells #[.string ⟨#[111, 110]⟩] 9)).heap[w.heap.size]? = some (.cells #[.pointer (some ⟨B, 0, none⟩)] 83 (0, 0)) := (Below.heap_alloc (W2.alloc (.cells #[.string nt, .int .i64 x1, .int .i64 y1] 120)) _ _ (by simp only [World.size_alloc, size_setC, dt.size_setCells]; omega)).trans fP3
 have fQ5 : ((W2.alloc (.cells #[.string nt, .int .i64 x1, .int .i64 y1] 120)).alloc (.cells #[.string ⟨#[111, 110]⟩] 9)).heap[(w.heap.size + 1)]? = some (.cells #[.int .i64 t.ln, .int .i64 t.co] 28 (0, 0)) := (Below.heap_alloc (W2.alloc (.cells #[.string nt, .int .i64 x1, .int .i64 y1] 120)) _ _ (by simp only [World.size_alloc, size_setC, dt.size_setCells]; omega)).trans fQ3
 have fR5 : ((W2.alloc (.cells #[.string nt, .int .i64 x1, .int .i64 y1] 120)).alloc (.cells #[.string ⟨#[111, 110]⟩] 9)).heap[(w.heap.size + 1 + 1)]? = some (.cells #[.int .i64 0, .string ⟨#[]⟩, .string ⟨#[]⟩, .bool false, .slice none 0 0, .slice none 0 0, .slice none 0 0, .int .i64 0, .int .i64 0] 53 (0, 0)) := (Below.heap_alloc (W2.alloc (.cells #[.string nt, .int .i64 x1, .int .i64 y1] 120)) _ _ (by simp only [World.size_alloc, size_setC, dt.size_setCells]; omega)).trans fR3
 have fN5 : ((W2.alloc (.cells #[.string nt, .int .i64 x1, .int .i64 y1] 120)).alloc (.cells #[.string ⟨#[111, 110]⟩] 9)).heap[W2.heap.size]? = some (.cells #[.string nt, .int .i64 x1, .int .i64 y1] 120 (0, 0)) := (Below.heap_alloc (W2.alloc (.cells #[.string nt, .int .i64 x1, .int .i64 y1] 120)) _ _ (by simp only [World.size_alloc, size_setC, dt.size_setCells]; omega)).trans fN3
 have fX5 : ((W2.alloc (.cells #[.string nt, .int .i64 x1, .int .i64 y1] 120)).alloc (.cells #[.string ⟨#[111, 110]⟩] 9)).heap[(W2.heap.size + 1)]? = some (.cells #[.string ⟨#[111, 110]⟩] 9 (0, 0)) := by have hh := heap_alloc_new (W2.alloc (.cells #[.string nt, .int .i64 x1, .int .i64 y1] 120)) (.cells #[.string ⟨#[111, 110]⟩] 9); simp only [World.size_alloc, size_setC, dt.size_setCells] at hh; exact hh
 have bb5 : Below (W2.alloc (.cells #[.string nt, .int .i64 x1, .int .i64 y1] 120)).heap.size (W2.alloc (.cells #[.string nt, .int .i64 x1, .int .i64 y1] 120)) ((W2.alloc (.cells #[.string nt, .int .i64 x1, .int .i64 y1] 120)).alloc (.cells #[.string ⟨#[111, 110]⟩] 9)) := (Below.refl _ _).alloc (Nat.le_refl _) _
 have C5 := C3.below bb5
 have K5 := K3.trans (Kp.of bb5)
 have HH6 := hide (And.intro fP5 (And.intro fQ5 (And.intro fR5 (And.intro fN5 (And.intro fX5 (And.intro C5 (And.intro K5 (And.intro fP2 (And.intro fQ2 (And.intro fR2 (And.intro K2 (And.intro C2 (And.intro fP3 (And.intro fQ3 (And.intro fR3 (And.intro fN3 (And.intro K3 (C3))))))))))))))))))
 clear fP5 fQ5 fR5 fN5 fX5 C5 K5 fP2 fQ2 fR2 K2 C2 fP3 fQ3 fR3 fN3 K3 C3
 go_wp2_with fail
 obtain ⟨fP5, fQ5, fR5, fN5, fX5, C5, K5, fP2, fQ2, fR2, K2, C2, fP3, fQ3, fR3, fN3, K3, C3⟩ := unhide HH6
 clear HH6
 obtain ⟨W7, hW7⟩ : ∃ W7, W7 = ((W2.alloc (.cells #[.string nt, .int .i64 x1, .int .i64 y1] 120)).alloc (.cells #[.string ⟨#[111, 110]⟩] 9)) := ⟨_, rfl⟩
 rw [← hW7] at fP5 fQ5 fR5 fN5 fX5 C5 K5 ⊢
 have sz7 : W2.heap.size + 2 ≤ W7.heap.size := by rw [hW7]; simp only [size_setC, dt.size_setCells, World.size_alloc]; exact Nat.le_refl _
 clear hW7 cP4_0 fP2 fQ2 fR2 K2 C2 fP3 fQ3 fR3 fN3 K3 C3
 refine ((unhide hw2) _ C5 (W2.heap.size + 1) ⟨rfl, by omega, by omega, fun i hi => by obtain rfl : i = 0 := (by omega); exact (dt.cell_cells fX5 0).trans rfl⟩).mono ?_
 rintro e W8 ⟨rfl, C8, J8⟩
 have sz8 := J8.size
 have fP8 : W8.heap[w.heap.size]? = some (.cells #[.pointer (some ⟨B, 0, none⟩)] 83 (0, 0)) := (J8.block _ (by omega) (by omega)).trans fP5
 have fQ8 : W8.heap[(w.heap.size + 1)]? = some (.cells #[.int .i64 t.ln, .int .i64 t.co] 28 (0, 0)) := (J8.block _ (by omega) (by omega)).trans fQ5
 have fR8 : W8.heap[(w.heap.size + 1 + 1)]? = some (.cells #[.int .i64 0, .string ⟨#[]⟩, .string ⟨#[]⟩, .bool false, .slice none 0 0, .slice none 0 0, .slice none 0 0, .int .i64 0, .int .i64 0] 53 (0, 0)) := (J8.block _ (by omega) (by omega)).trans fR5
 have fN8 : W8.heap[W2.heap.size]? = some (.cells #[.string nt, .int .i64 x1, .int .i64 y1] 120 (0, 0)) := (J8.block _ (by omega) (by omega)).trans fN5
 have fX8 : W8.heap[(W2.heap.size + 1)]? = some (.cells #[.string ⟨#[111, 110]⟩] 9 (0, 0)) := (J8.block _ (by omega) (by omega)).trans fX5
 have K8 := K5.trans J8
 clear fP5 fQ5 fR5 fN5 fX5 K5 C5 J8
 clear hw2
 have cP9_0 : W8.cell? ⟨w.heap.size, 0, none⟩ = some (.pointer (some ⟨B, 0, none⟩)) := (dt.cell_cells fP8 0).trans rfl
 have HH10 := hide (And.intro fP8 (And.intro fQ8 (And.intro fR8 (And.intro fN8 (And.intro C8 (K8))))))
 clear fP8 fQ8 fR8 fN8 C8 K8
 go_wp2_with fail
 obtain ⟨fP8, fQ8, fR8, fN8, C8, K8⟩ := unhide HH10
 clear HH10
 refine ((unhide hn2) _ C8).mono ?_
 rintro e W11 ⟨rfl, C11, J11⟩
 have sz11 := J11.size
 have fP11 : W11.heap[w.heap.size]? = some (.cells #[.pointer (some ⟨B, 0, none⟩)] 83 (0, 0)) := (J11.block _ (by omega) (by omega)).trans fP8
 have fQ11 : W11.heap[(w.heap.size + 1)]? = some (.cells #[.int .i64 t.ln, .int .i64 t.co] 28 (0, 0)) := (J11.block _ (by omega) (by omega)).trans fQ8
 have fR11 : W11.heap[(w.heap.size + 1 + 1)]? = some (.cells #[.int .i64 0, .string ⟨#[]⟩, .string ⟨#[]⟩, .bool false, .slice none 0 0, .slice none 0 0, .slice none 0 0, .int .i64 0, .int .i64 0] 53 (0, 0)) := (J11.block _ (by omega) (by omega)).trans fR8
 have fN11 : W11.heap[W2.heap.size]? = some (.cells #[.string nt, .int .i64 x1, .int .i64 y1] 120 (0, 0)) := (J11.block _ (by omega) (by omega)).trans fN8
 have K11 := K8.trans J11
 clear fP8 fQ8 fR8 fN8 K8 C8 J11 cP9_0
 clear hn2
 have cN12_0 : W11.cell? ⟨W2.heap.size, 0, none⟩ = some (.string nt) := (dt.cell_cells fN11 0).trans rfl
 have cQ13_0 : W11.cell? ⟨(w.heap.size + 1), 0, none⟩ = some (.int .i64 t.ln) := (dt.cell_cells fQ11 0).trans rfl
 have cQ13_1 : W11.cell? ⟨(w.heap.size + 1), 1, none⟩ = some (.int .i64 t.co) := (dt.cell_cells fQ11 1).trans rfl
 have cP14_0 : W11.cell? ⟨w.heap.size, 0, none⟩ = some (.pointer (some ⟨B, 0, none⟩)) := (dt.cell_cells fP11 0).trans rfl
 have fP15 : (W11.alloc (.cells #[.string o2, .int .i64 x2, .int .i64 y2] 120)).heap[w.heap.size]? = some (.cells #[.pointer (some ⟨B, 0, none⟩)] 83 (0, 0)) := (Below.heap_alloc W11 _ _ (by omega)).trans fP11
 have fQ15 : (W11.alloc (.cells #[.string o2, .int .i64 x2, .int .i64 y2] 120)).heap[(w.heap.size + 1)]? = some (.cells #[.int .i64 t.ln, .int .i64 t.co] 28 (0, 0)) := (Below.heap_alloc W11 _ _ (by omega)).trans fQ11
 have fR15 : (W11.alloc (.cells #[.string o2, .int .i64 x2, .int .i64 y2] 120)).heap[(w.heap.size + 1 + 1)]? = some (.cells #[.int .i64 0, .string ⟨#[]⟩, .string ⟨#[]⟩, .bool false, .slice none 0 0, .slice none 0 0, .slice none 0 0, .int .i64 0, .int .i64 0] 53 (0, 0)) := (Below.heap_alloc W11 _ _ (by omega)).trans fR11
 have fN15 : (W11.alloc (.cells #[.string o2, .int .i64 x2, .int .i64 y2] 120)).heap[W2.heap.size]? = some (.cells #[.string nt, .int .i64 x1, .int .i64 y1] 120 (0, 0)) := (Below.heap_alloc W11 _ _ (by omega)).trans fN11
 have fM15 : (W11.alloc (.cells #[.string o2, .int .i64 x2, .int .i64 y2] 120)).heap[W11.heap.size]? = some (.cells #[.string o2, .int .i64 x2, .int .i64 y2] 120 (0, 0)) := heap_alloc_new _ _
 have bb15 : Below W11.heap.size W11 (W11.alloc (.cells #[.string o2, .int .i64 x2, .int .i64 y2] 120)) := (Below.refl _ _).alloc (Nat.le_refl _) _
 have C15 := C11.below bb15
 have K15 := K11.trans (Kp.of bb15)
 have cN16_0 : (W11.alloc (.cells #[.string o2, .int .i64 x2, .int .i64 y2] 120)).cell? ⟨W2.heap.size, 0, none⟩ = some (.string nt) := (dt.cell_cells fN15 0).trans rfl
 have cQ17_0 : (W11.alloc (.cells #[.string o2, .int .i64 x2, .int .i64 y2] 120)).cell? ⟨(w.heap.size + 1), 0, none⟩ = some (.int .i64 t.ln) := (dt.cell_cells fQ15 0).trans rfl
 have cQ17_1 : (W11.alloc (.cells #[.string o2, .int .i64 x2, .int .i64 y2] 120)).cell? ⟨(w.heap.size + 1), 1, none⟩ = some (.int .i64 t.co) := (dt.cell_cells fQ15 1).trans rfl
 have cP18_0 : (W11.alloc (.cells #[.string o2, .int .i64 x2, .int .i64 y2] 120)).cell? ⟨w.heap.size, 0, none⟩ = some (.pointer (some ⟨B, 0, none⟩)) := (dt.cell_cells fP15 0).trans rfl
 have HH19 := hide (And.intro fP15 (And.intro fQ15 (And.intro fR15 (And.intro fN15 (And.intro fM15 (And.intro C15 (And.intro K15 (And.intro fP11 (And.intro fQ11 (And.intro fR11 (And.intro fN11 (And.intro K11 (C11)))))))))))))
 clear fP15 fQ15 fR15 fN15 fM15 C15 K15 fP11 fQ11 fR11 fN11 K11 C11
 go_wp2_with fail
 obtain ⟨fP15, fQ15, fR15, fN15, fM15, C15, K15, fP11, fQ11, fR11, fN11, K11, C11⟩ := unhide HH19
 clear HH19
 obtain ⟨W20, hW20⟩ : ∃ W20, W20 = (W11.alloc (.cells #[.string o2, .int .i64 x2, .int .i64 y2] 120)) := ⟨_, rfl⟩
 rw [← hW20] at fP15 fQ15 fR15 fN15 fM15 C15 K15 ⊢
 have sz20 : W11.heap.size + 1 ≤ W20.heap.size := by rw [hW20]; simp only [size_setC, dt.size_setCells, World.size_alloc]; exact Nat.le_refl _
 clear hW20 cN12_0 cQ13_0 cQ13_1 cP14_0 cN16_0 cQ17_0 cQ17_1 cP18_0 fP11 fQ11 fR11 fN11 K11 C11
 refine ((unhide hb) _ [] _ C15 (Nat.le_refl _) (by omega) (Sh.nil (Nat.le_refl _))).mono ?_
 rintro e W21 ⟨cs, F, rfl, hsp, hown, C21, J21⟩
 have sz21 := J21.size
 have fP21 : W21.heap[w.heap.size]? = some (.cells #[.pointer (some ⟨B, 0, none⟩)] 83 (0, 0)) := (J21.block _ (by omega) (by omega)).trans fP15
 have fQ21 : W21.heap[(w.heap.size + 1)]? = some (.cells #[.int .i64 t.ln, .int .i64 t.co] 28 (0, 0)) := (J21.block _ (by omega) (by omega)).trans fQ15
 have fR21 : W21.heap[(w.heap.size + 1 + 1)]? = some (.cells #[.int .i64 0, .string ⟨#[]⟩, .string ⟨#[]⟩, .bool false, .slice none 0 0, .slice none 0 0, .slice none 0 0, .int .i64 0, .int .i64 0] 53 (0, 0)) := (J21.block _ (by omega) (by omega)).trans fR15
 have fN21 : W21.heap[W2.heap.size]? = some (.cells #[.string nt, .int .i64 x1, .int .i64 y1] 120 (0, 0)) := (J21.block _ (by omega) (by omega)).trans fN15
 have fM21 : W21.heap[W11.heap.size]? = some (.cells #[.string o2, .int .i64 x2, .int .i64 y2] 120 (0, 0)) := (J21.block _ (by omega) (by omega)).trans fM15
 have K21 := K15.trans J21
 clear fP15 fQ15 fR15 fN15 fM15 K15 C15 J21
 obtain ⟨z1, z2, z3, z4, z5, z6, rfl⟩ := hsp
 have HT := hide (dt.there_cells fR21 (o := 0) (n := 9) (by decide))
 have HF := hide (And.intro C21 (And.intro K21 hown))
 clear C21 K21 hown
 go_wp2_with (first
  | refine wpList_store_mid (by rfl) 53 _ _ (by rfl) (w.heap.size + 1 + 1) 0 (defC 4 nt o2 false none 0 0 z1 z2 z3 z4 z5 z6 t.ln t.co).toArray (by rfl) (by rfl) (unhide HT) infoDef (dt.one_cells (cs := defC 4 nt o2 false none 0 0 z1 z2 z3 z4 z5 z6 t.ln t.co) (by rfl)) ?_)
 refine bodyPost_ret (rgn.result_row_tmp rfl _ _ (w.heap.size + 1 + 1) 0 (defC 4 nt o2 false none 0 0 z1 z2 z3 z4 z5 z6 t.ln t.co) _ rfl (World.rangeAt_setCells_same _ _ _ _ (unhide HT)) Tryz.underlying53 rfl infoDef) rfl ?_
 obtain ⟨hC, hK, hown⟩ := unhide HF
 exact ⟨_, F, rfl, ⟨⟨_, _, _, _, _, _, _, _, _, _, _, _, _, _, _, rfl⟩, fun d e => let hh := hown d e; ⟨ow_out hh.1 (fun hb => by have := (hh.2.2 _ hb).1; omega) 0 _, hh.2.1, fun b hb => ⟨by have := (hh.2.2 b hb).1; omega, by rw [dt.size_setCells]; exact (hh.2.2 b hb).2⟩⟩⟩, hC.out (by omega) (by omega) _ _, hK.out (by omega) _ _⟩
def wds4 : List ByteArray := [bQuery, bMut, bSub, bFrag]
theorem wds4_in {x : ByteArray} (h : inW wds4 x = true) : x = bQuery ∨ x = bMut ∨ x = bSub ∨ x = bFrag := by
 unfold inW wds4 at h
 simp only [List.any_cons, List.any_nil, Bool.or_false, Bool.or_eq_true, decide_eq_true_eq] at h
 rcases h with h | h | h | h
 ·exact .inl h.symm
 ·exact .inr (.inl h.symm)
 ·exact .inr (.inr (.inl h.symm))
 ·exact .inr (.inr (.inr h.symm))
theorem defS_k (T : TypR) (K L : LitR) (S : LstR) (c : Cu) (hp : c.isP bLc = false) (hw : c.isW wds4 = true) : (c.tok.tx = bQuery → defS T K L S c = operS T K L S 1 c.tok c.take) ∧ (c.tok.tx = bMut → defS T K L S c = operS T K L S 2 c.tok c.take) ∧ (c.tok.tx = bSub → defS T K L S c = operS T K L S 3 c.tok c.take) ∧ (c.tok.tx = bFrag → defS T K L S c = fragS L S c.tok c.take) := by
 unfold defS
 rw [if_neg (by rw [hp]; decide), if_pos (show c.isW [bQuery, bMut, bSub, bFrag] = true from hw)]
 refine ⟨fun e => by rw [if_pos e], fun e => ?_, fun e => ?_, fun e => ?_⟩
 ·rw [if_neg (by rw [e]; decide), if_pos e]
 ·rw [if_neg (by rw [e]; decide), if_neg (by rw [e]; decide), if_pos e]
 ·rw [if_neg (by rw [e]; decide), if_neg (by rw [e]; decide), if_neg (by rw [e]; decide)]
def DefFn (E : Cu → Option Dt × Cu) (c : Cu) : Prop := ∀ (B p : Nat) (w : World), CurAt w B p c → Calls Tryz.prog 31 #[par B] w fun e w' => ∃ cs F, e = .returned (.tuple #[.agg cs.toArray, .bool (E c).1.isSome]) ∧ DefPost (E c).1 w w' cs F ∧ CurAt w' B p (E c).2 ∧ Kp B w w'
set_option maxRecDepth 4000 in
set_option maxHeartbeats 3000000 in
theorem definition_ok (T : TypR) (K L : LitR) (S : LstR) (c : Cu) (hc0 : c.Ok) (hS : c.isP bLc = true → SelsAt S c) (hO : c.isW wds4 = true → ∀ k, OpAt k c.tok.ln c.tok.co (operS T K L S k c.tok c.take) c.take) (hF : c.isW wds4 = true → FragAt c.tok.ln c.tok.co (fragS L S c.tok c.take) c.take) : DefFn (defS T K L S) c := by
 intro B p w h
 have hlt := h.lt
 have hplt := h.plt
 have ht := hide (fun W (hc : CurAt W B p c) => token_ok B p c W hc)
 have hip := hide (fun W (hc : CurAt W B p c) => isPunct_ok B p c bLc W hc)
 have hss := hide (fun hq W (hc : CurAt W B p c) => hS hq B p W hc)
 have hw := hide (fun W (hc : CurAt W B p c) b (hw : Wds W b 4 4 wds4) => wantWord_ok B p c b 4 4 wds4 W hc hw (by omega))
 have ho := hide (fun hq k W (hc : CurAt W B p c.take) => hO hq k B p W hc)
 have hf := hide (fun hq W (hc : CurAt W B p c.take) => hF hq B p W hc)
 have hv1 := hide (show c.isP bLc = true → defS T K L S c = ((S c).1.map fun ss => defD 1 em em true [] [] ss c.tok.ln c.tok.co, (S c).2) from fun e => by unfold defS; rw [if_pos e]; cases (S c).1 <;> rfl)
 have hv2 := hide (defS_k T K L S c)
 have hv3 := hide (show c.isP bLc = false → c.isW wds4 = false → defS T K L S c = (none, c.stop 70) from fun e1 e2 => by unfold defS; rw [if_neg (by rw [e1]; decide), if_neg (by rw [show c.isW [bQuery, bMut, bSub, bFrag] = false from e2]; decide)])
 have hiw := hide (show c.isW wds4 = true → inW wds4 c.tok.tx = true from fun e => by unfold Cu.isW at e; simp only [Bool.and_eq_true] at e; exact e.2)
 have hn1 := hide (show c.nmC true = c.take from rfl)
 have hn0 := hide (show c.nmC false = c.stop 70 from rfl)
 obtain ⟨V, hVe⟩ : ∃ V, V = defS T K L S c := ⟨_, rfl⟩
 rw [← hVe] at hv1 hv2 hv3 ⊢
 obtain ⟨VO, hVO⟩ : ∃ VO : Int → Option Dt × Cu, VO = fun k => operS T K L S k c.tok c.take := ⟨_, rfl⟩
 have ho2 := hide (show c.isW wds4 = true → ∀ k W, CurAt W B p c.take → Calls Tryz.prog 55 #[par B, .int .i64 k, .agg #[.int .i64 c.tok.ln, .int .i64 c.tok.co]] W fun e w' => ∃ cs F, e = .returned (.tuple #[.agg cs.toArray, .bool (VO k).1.isSome]) ∧ DefPost (VO k).1 W w' cs F ∧ CurAt w' B p (VO k).2 ∧ Kp B W w' from by rw [hVO]; exact unhide ho)
 have hv2' := hide (show c.isP bLc = false → c.isW wds4 = true → (c.tok.tx = bQuery → V = VO 1) ∧ (c.tok.tx = bMut → V = VO 2) ∧ (c.tok.tx = bSub → V = VO 3) ∧ (c.tok.tx = bFrag → V = fragS L S c.tok c.take) from by rw [hVO]; exact unhide hv2)
 obtain ⟨VF, hVF⟩ : ∃ VF, VF = fragS L S c.tok c.take := ⟨_, rfl⟩
 rw [← hVF] at hf hv2'
 obtain ⟨X, hX⟩ : ∃ X, X = S c := ⟨_, rfl⟩
 rw [← hX] at hss hv1
 obtain ⟨q, E⟩ := X
 simp only at hss hv1
 obtain ⟨IW, hIW⟩ : ∃ IW, IW = c.isW wds4 := ⟨_, rfl⟩
 rw [← hIW] at hw hf ho2 hv2' hv3 hiw
 obtain ⟨IP, hIP⟩ : ∃ IP, IP = c.isP bLc := ⟨_, rfl⟩
 rw [← hIP] at hip hss hv1 hv2' hv3
 obtain ⟨Z, hZ⟩ : ∃ Z, Z = c.take := ⟨_, rfl⟩
 rw [← hZ] at hf ho2 hn1
 obtain ⟨Y, hY⟩ : ∃ Y, Y = c.stop 70 := ⟨_, rfl⟩
 rw [← hY] at hn0 hv3
 obtain ⟨M, hM⟩ : ∃ M : Bool → Cu, M = c.nmC := ⟨_, rfl⟩
 rw [← hM] at hw hn1 hn0
 obtain ⟨t, et⟩ : ∃ t, t = c.tok := ⟨_, rfl⟩
 rw [← et] at ht hw hf ho2 hv1 hv2' hiw
 have hf1 := fld_pos t
 clear hS hO hF hVe hVO hv2 ho hVF hX hIW hIP hZ hY hM et
 unfold Tk.cells at ht
 obtain ⟨k0, l0, o0, f0, g0, x0, v0⟩ := t
 simp only at ht hw hf ho2 hv1 hv2' hiw hf1
 unfold ptr at ht hip hw
 unfold par at hss hf ho2 ⊢
 go_enter Tryz.func31, Tryz.ntmps31
 go_wp2_with fail
 obtain ⟨W1, hW1⟩ : ∃ W1, W1 = allocs w [(#[.pointer (some ⟨B, 0, none⟩)], 83), (#[.int .i64 0, .string ⟨#[]⟩, .string ⟨#[]⟩, .bool false, .slice none 0 0, .slice none 0 0, .slice none 0 0, .int .i64 0, .int .i64 0], 53)] := ⟨_, rfl⟩
 have gW1 : W1 = ((w.alloc (.cells #[.pointer (some ⟨B, 0, none⟩)] 83)).alloc (.cells #[.int .i64 0, .string ⟨#[]⟩, .string ⟨#[]⟩, .bool false, .slice none 0 0, .slice none 0 0, .slice none 0 0, .int .i64 0, .int .i64 0] 53)) := hW1
 have aa := allocs_at [(#[.pointer (some ⟨B, 0, none⟩)], 83), (#[.int .i64 0, .string ⟨#[]⟩, .string ⟨#[]⟩, .bool false, .slice none 0 0, .slice none 0 0, .slice none 0 0, .int .i64 0, .int .i64 0], 53)] w
 have fP1 : W1.heap[w.heap.size]? = some (.cells #[.pointer (some ⟨B, 0, none⟩)] 83 (0, 0)) := by rw [hW1]; exact aa 0 _ rfl
 have fR1 : W1.heap[(w.heap.size + 1)]? = some (.cells #[.int .i64 0, .string ⟨#[]⟩, .string ⟨#[]⟩, .bool false, .slice none 0 0, .slice none 0 0, .slice none 0 0, .int .i64 0, .int .i64 0] 53 (0, 0)) := by rw [hW1]; exact aa 1 _ rfl
 have bw : Below w.heap.size w W1 := by rw [hW1]; exact allocs_below _ _
 have sz1 : w.heap.size + 2 ≤ W1.heap.size := by rw [hW1, allocs_size]; exact Nat.le_refl _
 have K1 : Kp B w W1 := Kp.of bw
 have C1 := h.below bw
 rw [← gW1]
 clear gW1 hW1 bw aa h
 refine ((unhide ht) _ C1).mono ?_
 rintro e W2 ⟨rfl, bb2⟩
 have J2 : Kp B W1 W2 := Kp.of bb2
 have C2 := C1.below bb2
 have sz2 := J2.size
 have fP2 : W2.heap[w.heap.size]? = some (.cells #[.pointer (some ⟨B, 0, none⟩)] 83 (0, 0)) := (J2.block _ (by omega) (by omega)).trans fP1
 have fR2 : W2.heap[(w.heap.size + 1)]? = some (.cells #[.int .i64 0, .string ⟨#[]⟩, .string ⟨#[]⟩, .bool false, .slice none 0 0, .slice none 0 0, .slice none 0 0, .int .i64 0, .int .i64 0] 53 (0, 0)) := (J2.block _ (by omega) (by omega)).trans fR1
 have K2 := K1.trans J2
 clear fP1 fR1 K1 C1 J2
 clear ht
 have fP3 : (W2.alloc (.cells #[.int .i64 l0, .int .i64 o0] 28)).heap[w.heap.size]? = some (.cells #[.pointer (some ⟨B, 0, none⟩)] 83 (0, 0)) := (Below.heap_alloc W2 _ _ (by omega)).trans fP2
 have fR3 : (W2.alloc (.cells #[.int .i64 l0, .int .i64 o0] 28)).heap[(w.heap.size + 1)]? = some (.cells #[.int .i64 0, .string ⟨#[]⟩, .string ⟨#[]⟩, .bool false, .slice none 0 0, .slice none 0 0, .slice none 0 0, .int .i64 0, .int .i64 0] 53 (0, 0)) := (Below.heap_alloc W2 _ _ (by omega)).trans fR2
 have fQ3 : (W2.alloc (.cells #[.int .i64 l0, .int .i64 o0] 28)).heap[W2.heap.size]? = some (.cells #[.int .i64 l0, .int .i64 o0] 28 (0, 0)) := heap_alloc_new _ _
 have bb3 : Below W2.heap.size W2 (W2.alloc (.cells #[.int .i64 l0, .int .i64 o0] 28)) := (Below.refl _ _).alloc (Nat.le_refl _) _
 have C3 := C2.below bb3
 have K3 := K2.trans (Kp.of bb3)
 have cP4_0 : (W2.alloc (.cells #[.int .i64 l0, .int .i64 o0] 28)).cell? ⟨w.heap.size, 0, none⟩ = some (.pointer (some ⟨B, 0, none⟩)) := (dt.cell_cells fP3 0).trans rfl
 have HH5 := hide (And.intro fP3 (And.intro fR3 (And.intro fQ3 (And.intro C3 (And.intro K3 (And.intro fP2 (And.intro fR2 (And.intro K2 (C2)))))))))
 clear fP3 fR3 fQ3 C3 K3 fP2 fR2 K2 C2
 go_wp2_with fail
 obtain ⟨fP3, fR3, fQ3, C3, K3, fP2, fR2, K2, C2⟩ := unhide HH5
 clear HH5
 obtain ⟨W6, hW6⟩ : ∃ W6, W6 = (W2.alloc (.cells #[.int .i64 l0, .int .i64 o0] 28)) := ⟨_, rfl⟩
 rw [← hW6] at fP3 fR3 fQ3 C3 K3 ⊢
 have sz6 : W2.heap.size + 1 ≤ W6.heap.size := by rw [hW6]; simp only [size_setC, dt.size_setCells, World.size_alloc]; exact Nat.le_refl _
 clear hW6 cP4_0 fP2 fR2 K2 C2
 refine ((unhide hip) _ C3).mono ?_
 rintro e W7 ⟨rfl, bb7⟩
 have J7 : Kp B W6 W7 := Kp.of bb7
 have C7 := C3.below bb7
 have sz7 := J7.size
 have fP7 : W7.heap[w.heap.size]? = some (.cells #[.pointer (some ⟨B, 0, none⟩)] 83 (0, 0)) := (J7.block _ (by omega) (by omega)).trans fP3
 have fR7 : W7.heap[(w.heap.size + 1)]? = some (.cells #[.int .i64 0, .string ⟨#[]⟩, .string ⟨#[]⟩, .bool false, .slice none 0 0, .slice none 0 0, .slice none 0 0, .int .i64 0, .int .i64 0] 53 (0, 0)) := (J7.block _ (by omega) (by omega)).trans fR3
 have fQ7 : W7.heap[W2.heap.size]? = some (.cells #[.int .i64 l0, .int .i64 o0] 28 (0, 0)) := (J7.block _ (by omega) (by omega)).trans fQ3
 have K7 := K3.trans J7
 clear fP3 fR3 fQ3 K3 C3 J7
 clear hip
 cases IP
 ·clear hss hv1
  have cP8_0 : W7.cell? ⟨w.heap.size, 0, none⟩ = some (.pointer (some ⟨B, 0, none⟩)) := (dt.cell_cells fP7 0).trans rfl
  have fP9 : (W7.alloc (.cells #[.string ⟨#[113, 117, 101, 114, 121]⟩, .string ⟨#[109, 117, 116, 97, 116, 105, 111, 110]⟩, .string ⟨#[115, 117, 98, 115, 99, 114, 105, 112, 116, 105, 111, 110]⟩, .string ⟨#[102, 114, 97, 103, 109, 101, 110, 116]⟩] 9)).heap[w.heap.size]? = some (.cells #[.pointer (some ⟨B, 0, none⟩)] 83 (0, 0)) := (Below.heap_alloc W7 _ _ (by omega)).trans fP7
  have fR9 : (W7.alloc (.cells #[.string ⟨#[113, 117, 101, 114, 121]⟩, .string ⟨#[109, 117, 116, 97, 116, 105, 111, 110]⟩, .string ⟨#[115, 117, 98, 115, 99, 114, 105, 112, 116, 105, 111, 110]⟩, .string ⟨#[102, 114, 97, 103, 109, 101, 110, 116]⟩] 9)).heap[(w.heap.size + 1)]? = some (.cells #[.int .i64 0, .string ⟨#[]⟩, .string ⟨#[]⟩, .bool false, .slice none 0 0, .slice none 0 0, .slice none 0 0, .int .i64 0, .int .i64 0] 53 (0, 0)) := (Below.heap_alloc W7 _ _ (by omega)).trans fR7
  have fQ9 : (W7.alloc (.cells #[.string ⟨#[113, 117, 101, 114, 121]⟩, .string ⟨#[109, 117, 116, 97, 116, 105, 111, 110]⟩, .string ⟨#[115, 117, 98, 115, 99, 114, 105, 112, 116, 105, 111, 110]⟩, .string ⟨#[102, 114, 97, 103, 109, 101, 110, 116]⟩] 9)).heap[W2.heap.size]? = some (.cells #[.int .i64 l0, .int .i64 o0] 28 (0, 0)) := (Below.heap_alloc W7 _ _ (by omega)).trans fQ7
  have fX9 : (W7.alloc (.cells #[.string ⟨#[113, 117, 101, 114, 121]⟩, .string ⟨#[109, 117, 116, 97, 116, 105, 111, 110]⟩, .string ⟨#[115, 117, 98, 115, 99, 114, 105, 112, 116, 105, 111, 110]⟩, .string ⟨#[102, 114, 97, 103, 109, 101, 110, 116]⟩] 9)).heap[W7.heap.size]? = some (.cells #[.string ⟨#[113, 117, 101, 114, 121]⟩, .string ⟨#[109, 117, 116, 97, 116, 105, 111, 110]⟩, .string ⟨#[115, 117, 98, 115, 99, 114, 105, 112, 116, 105, 111, 110]⟩, .string ⟨#[102, 114, 97, 103, 109, 101, 110, 116]⟩] 9 (0, 0)) := heap_alloc_new _ _
  have bb9 : Below W7.heap.size W7 (W7.alloc (.cells #[.string ⟨#[113, 117, 101, 114, 121]⟩, .string ⟨#[109, 117, 116, 97, 116, 105, 111, 110]⟩, .string ⟨#[115, 117, 98, 115, 99, 114, 105, 112, 116, 105, 111, 110]⟩, .string ⟨#[102, 114, 97, 103, 109, 101, 110, 116]⟩] 9)) := (Below.refl _ _).alloc (Nat.le_refl _) _
  have C9 := C7.below bb9
  have K9 := K7.trans (Kp.of bb9)
  have HH10 := hide (And.intro fP9 (And.intro fR9 (And.intro fQ9 (And.intro fX9 (And.intro C9 (And.intro K9 (And.intro fP7 (And.intro fR7 (And.intro fQ7 (And.intro K7 (C7)))))))))))
  clear fP9 fR9 fQ9 fX9 C9 K9 fP7 fR7 fQ7 K7 C7
  go_wp2_with fail
  obtain ⟨fP9, fR9, fQ9, fX9, C9, K9, fP7, fR7, fQ7, K7, C7⟩ := unhide HH10
  clear HH10
  obtain ⟨W11, hW11⟩ : ∃ W11, W11 = (W7.alloc (.cells #[.string ⟨#[113, 117, 101, 114, 121]⟩, .string ⟨#[109, 117, 116, 97, 116, 105, 111, 110]⟩, .string ⟨#[115, 117, 98, 115, 99, 114, 105, 112, 116, 105, 111, 110]⟩, .string ⟨#[102, 114, 97, 103, 109, 101, 110, 116]⟩] 9)) := ⟨_, rfl⟩
  rw [← hW11] at fP9 fR9 fQ9 fX9 C9 K9 ⊢
  have sz11 : W7.heap.size + 1 ≤ W11.heap.size := by rw [hW11]; simp only [size_setC, dt.size_setCells, World.size_alloc]; exact Nat.le_refl _
  clear hW11 cP8_0 fP7 fR7 fQ7 K7 C7
  have hwd : Wds W11 W7.heap.size 4 4 wds4 := ⟨rfl, by omega, by omega, fun i hi => by rcases (show i = 0 ∨ i = 1 ∨ i = 2 ∨ i = 3 by omega) with rfl | rfl | rfl | rfl <;> exact (dt.cell_cells fX9 _).trans rfl⟩
  cases IW
  ·have hv := hide ((unhide hv3) (by first | rfl | trivial) (by first | rfl | trivial))
   rw [show nmV (⟨k0, l0, o0, f0, g0, x0, v0⟩ : Tk) false = [.string em, .int .i64 0, .int .i64 0] from rfl, unhide hn0] at hw
   clear hv2' hv3 hiw ho2 hf hn1 hn0
   refine ((unhide hw) _ C9 _ hwd).mono ?_
   rintro e W12 ⟨rfl, C12, J12⟩
   have sz12 := J12.size
   have fP12 : W12.heap[w.heap.size]? = some (.cells #[.pointer (some ⟨B, 0, none⟩)] 83 (0, 0)) := (J12.block _ (by omega) (by omega)).trans fP9
   have fR12 : W12.heap[(w.heap.size + 1)]? = some (.cells #[.int .i64 0, .string ⟨#[]⟩, .string ⟨#[]⟩, .bool false, .slice none 0 0, .slice none 0 0, .slice none 0 0, .int .i64 0, .int .i64 0] 53 (0, 0)) := (J12.block _ (by omega) (by omega)).trans fR9
   have fQ12 : W12.heap[W2.heap.size]? = some (.cells #[.int .i64 l0, .int .i64 o0] 28 (0, 0)) := (J12.block _ (by omega) (by omega)).trans fQ9
   have fX12 : W12.heap[W7.heap.size]? = some (.cells #[.string ⟨#[113, 117, 101, 114, 121]⟩, .string ⟨#[109, 117, 116, 97, 116, 105, 111, 110]⟩, .string ⟨#[115, 117, 98, 115, 99, 114, 105, 112, 116, 105, 111, 110]⟩, .string ⟨#[102, 114, 97, 103, 109, 101, 110, 116]⟩] 9 (0, 0)) := (J12.block _ (by omega) (by omega)).trans fX9
   have K12 := K9.trans J12
   clear fP9 fR9 fQ9 fX9 K9 C9 J12
   clear hw hwd
   have fP13 : (W12.alloc (.cells #[.string em, .int .i64 0, .int .i64 0] 120)).heap[w.heap.size]? = some (.cells #[.pointer (some ⟨B, 0, none⟩)] 83 (0, 0)) := (Below.heap_alloc W12 _ _ (by omega)).trans fP12
   have fR13 : (W12.alloc (.cells #[.string em, .int .i64 0, .int .i64 0] 120)).heap[(w.heap.size + 1)]? = some (.cells #[.int .i64 0, .string ⟨#[]⟩, .string ⟨#[]⟩, .bool false, .slice none 0 0, .slice none 0 0, .slice none 0 0, .int .i64 0, .int .i64 0] 53 (0, 0)) := (Below.heap_alloc W12 _ _ (by omega)).trans fR12
   have fQ13 : (W12.alloc (.cells #[.string em, .int .i64 0, .int .i64 0] 120)).heap[W2.heap.size]? = some (.cells #[.int .i64 l0, .int .i64 o0] 28 (0, 0)) := (Below.heap_alloc W12 _ _ (by omega)).trans fQ12
   have fX13 : (W12.alloc (.cells #[.string em, .int .i64 0, .int .i64 0] 120)).heap[W7.heap.size]? = some (.cells #[.string ⟨#[113, 117, 101, 114, 121]⟩, .string ⟨#[109, 117, 116, 97, 116, 105, 111, 110]⟩, .string ⟨#[115, 117, 98, 115, 99, 114, 105, 112, 116, 105, 111, 110]⟩, .string ⟨#[102, 114, 97, 103, 109, 101, 110, 116]⟩] 9 (0, 0)) := (Below.heap_alloc W12 _ _ (by omega)).trans fX12
   have fN13 : (W12.alloc (.cells #[.string em, .int .i64 0, .int .i64 0] 120)).heap[W12.heap.size]? = some (.cells #[.string em, .int .i64 0, .int .i64 0] 120 (0, 0)) := heap_alloc_new _ _
   have bb13 : Below W12.heap.size W12 (W12.alloc (.cells #[.string em, .int .i64 0, .int .i64 0] 120)) := (Below.refl _ _).alloc (Nat.le_refl _) _
   have C13 := C12.below bb13
   have K13 := K12.trans (Kp.of bb13)
   unfold em
   have HT := hide (dt.there_cells fR13 (o := 0) (n := 9) (by decide))
   have HF := hide (And.intro C13 K13)
   clear C13 K13
   go_wp2_with (first
    | refine wpList_store_mid (by rfl) 53 _ _ (by rfl) (w.heap.size + 1) 0 (defC 0 em em false none 0 0 none 0 0 none 0 0 0 0).toArray (by rfl) (by rfl) (unhide HT) infoDef (dt.one_cells (cs := defC 0 em em false none 0 0 none 0 0 none 0 0 0 0) (by rfl)) ?_)
   refine bodyPost_ret (rgn.result_row_tmp rfl _ _ (w.heap.size + 1) 0 (defC 0 em em false none 0 0 none 0 0 none 0 0 0 0) _ rfl (World.rangeAt_setCells_same _ _ _ _ (unhide HT)) Tryz.underlying53 rfl infoDef) rfl ?_
   obtain ⟨hC, hK⟩ := unhide HF
   rw [unhide hv]
   exact ⟨_, [], rfl, ⟨⟨_, _, _, _, _, _, _, _, _, _, _, _, _, _, _, rfl⟩, fun d e => by cases e⟩, hC.out (by omega) (by omega) _ _, hK.out (by omega) _ _⟩
  ·have hv := hide ((unhide hv2') (by first | rfl | trivial) (by first | rfl | trivial))
   have hor := wds4_in ((unhide hiw) (by first | rfl | trivial))
   rw [show nmV (⟨k0, l0, o0, f0, g0, x0, v0⟩ : Tk) true = [.string x0, .int .i64 l0, .int .i64 o0] from rfl, unhide hn1] at hw
   clear hv2' hv3 hiw hn1 hn0
   refine ((unhide hw) _ C9 _ hwd).mono ?_
   rintro e W12 ⟨rfl, C12, J12⟩
   have sz12 := J12.size
   have fP12 : W12.heap[w.heap.size]? = some (.cells #[.pointer (some ⟨B, 0, none⟩)] 83 (0, 0)) := (J12.block _ (by omega) (by omega)).trans fP9
   have fR12 : W12.heap[(w.heap.size + 1)]? = some (.cells #[.int .i64 0, .string ⟨#[]⟩, .string ⟨#[]⟩, .bool false, .slice none 0 0, .slice none 0 0, .slice none 0 0, .int .i64 0, .int .i64 0] 53 (0, 0)) := (J12.block _ (by omega) (by omega)).trans fR9
   have fQ12 : W12.heap[W2.heap.size]? = some (.cells #[.int .i64 l0, .int .i64 o0] 28 (0, 0)) := (J12.block _ (by omega) (by omega)).trans fQ9
   have fX12 : W12.heap[W7.heap.size]? = some (.cells #[.string ⟨#[113, 117, 101, 114, 121]⟩, .string ⟨#[109, 117, 116, 97, 116, 105, 111, 110]⟩, .string ⟨#[115, 117, 98, 115, 99, 114, 105, 112, 116, 105, 111, 110]⟩, .string ⟨#[102, 114, 97, 103, 109, 101, 110, 116]⟩] 9 (0, 0)) := (J12.block _ (by omega) (by omega)).trans fX9
   have K12 := K9.trans J12
   clear fP9 fR9 fQ9 fX9 K9 C9 J12
   clear hw hwd
   rcases hor with rfl | rfl | rfl | rfl
   ·have hvv := hide ((unhide hv).1 (by first | rfl | trivial))
    clear hv
    unfold bQuery
    have fP13 : (W12.alloc (.cells #[.string ⟨#[113, 117, 101, 114, 121]⟩, .int .i64 l0, .int .i64 o0] 120)).heap[w.heap.size]? = some (.cells #[.pointer (some ⟨B, 0, none⟩)] 83 (0, 0)) := (Below.heap_alloc W12 _ _ (by omega)).trans fP12
    have fR13 : (W12.alloc (.cells #[.string ⟨#[113, 117, 101, 114, 121]⟩, .int .i64 l0, .int .i64 o0] 120)).heap[(w.heap.size + 1)]? = some (.cells #[.int .i64 0, .string ⟨#[]⟩, .string ⟨#[]⟩, .bool false, .slice none 0 0, .slice none 0 0, .slice none 0 0, .int .i64 0, .int .i64 0] 53 (0, 0)) := (Below.heap_alloc W12 _ _ (by omega)).trans fR12
    have fQ13 : (W12.alloc (.cells #[.string ⟨#[113, 117, 101, 114, 121]⟩, .int .i64 l0, .int .i64 o0] 120)).heap[W2.heap.size]? = some (.cells #[.int .i64 l0, .int .i64 o0] 28 (0, 0)) := (Below.heap_alloc W12 _ _ (by omega)).trans fQ12
    have fX13 : (W12.alloc (.cells #[.string ⟨#[113, 117, 101, 114, 121]⟩, .int .i64 l0, .int .i64 o0] 120)).heap[W7.heap.size]? = some (.cells #[.string ⟨#[113, 117, 101, 114, 121]⟩, .string ⟨#[109, 117, 116, 97, 116, 105, 111, 110]⟩, .string ⟨#[115, 117, 98, 115, 99, 114, 105, 112, 116, 105, 111, 110]⟩, .string ⟨#[102, 114, 97, 103, 109, 101, 110, 116]⟩] 9 (0, 0)) := (Below.heap_alloc W12 _ _ (by omega)).trans fX12
    have fN13 : (W12.alloc (.cells #[.string ⟨#[113, 117, 101, 114, 121]⟩, .int .i64 l0, .int .i64 o0] 120)).heap[W12.heap.size]? = some (.cells #[.string ⟨#[113, 117, 101, 114, 121]⟩, .int .i64 l0, .int .i64 o0] 120 (0, 0)) := heap_alloc_new _ _
    have bb13 : Below W12.heap.size W12 (W12.alloc (.cells #[.string ⟨#[113, 117, 101, 114, 121]⟩, .int .i64 l0, .int .i64 o0] 120)) := (Below.refl _ _).alloc (Nat.le_refl _) _
    have C13 := C12.below bb13
    have K13 := K12.trans (Kp.of bb13)
    have cP14_0 : (W12.alloc (.cells #[.string ⟨#[113, 117, 101, 114, 121]⟩, .int .i64 l0, .int .i64 o0] 120)).cell? ⟨w.heap.size, 0, none⟩ = some (.pointer (some ⟨B, 0, none⟩)) := (dt.cell_cells fP13 0).trans rfl
    have cQ15_0 : (W12.alloc (.cells #[.string ⟨#[113, 117, 101, 114, 121]⟩, .int .i64 l0, .int .i64 o0] 120)).cell? ⟨W2.heap.size, 0, none⟩ = some (.int .i64 l0) := (dt.cell_cells fQ13 0).trans rfl
    have cQ15_1 : (W12.alloc (.cells #[.string ⟨#[113, 117, 101, 114, 121]⟩, .int .i64 l0, .int .i64 o0] 120)).cell? ⟨W2.heap.size, 1, none⟩ = some (.int .i64 o0) := (dt.cell_cells fQ13 1).trans rfl
    have HH16 := hide (And.intro fP13 (And.intro fR13 (And.intro fQ13 (And.intro fX13 (And.intro fN13 (And.intro C13 (And.intro K13 (And.intro fP12 (And.intro fR12 (And.intro fQ12 (And.intro fX12 (And.intro K12 (C12)))))))))))))
    clear fP13 fR13 fQ13 fX13 fN13 C13 K13 fP12 fR12 fQ12 fX12 K12 C12
    go_wp2_with fail
    obtain ⟨fP13, fR13, fQ13, fX13, fN13, C13, K13, fP12, fR12, fQ12, fX12, K12, C12⟩ := unhide HH16
    clear HH16
    obtain ⟨W17, hW17⟩ : ∃ W17, W17 = (W12.alloc (.cells #[.string ⟨#[113, 117, 101, 114, 121]⟩, .int .i64 l0, .int .i64 o0] 120)) := ⟨_, rfl⟩
    rw [← hW17] at fP13 fR13 fQ13 fX13 fN13 C13 K13 ⊢
    have sz17 : W12.heap.size + 1 ≤ W17.heap.size := by rw [hW17]; simp only [size_setC, dt.size_setCells, World.size_alloc]; exact Nat.le_refl _
    clear hW17 cP14_0 cQ15_0 cQ15_1 fP12 fR12 fQ12 fX12 K12 C12
    refine ((unhide ho2) (by first | rfl | trivial) 1 _ C13).mono ?_
    rintro e W18 ⟨cs, F, rfl, hpo, C18, J18⟩
    have sz18 := J18.size
    have fP18 : W18.heap[w.heap.size]? = some (.cells #[.pointer (some ⟨B, 0, none⟩)] 83 (0, 0)) := (J18.block _ (by omega) (by omega)).trans fP13
    have fR18 : W18.heap[(w.heap.size + 1)]? = some (.cells #[.int .i64 0, .string ⟨#[]⟩, .string ⟨#[]⟩, .bool false, .slice none 0 0, .slice none 0 0, .slice none 0 0, .int .i64 0, .int .i64 0] 53 (0, 0)) := (J18.block _ (by omega) (by omega)).trans fR13
    have fQ18 : W18.heap[W2.heap.size]? = some (.cells #[.int .i64 l0, .int .i64 o0] 28 (0, 0)) := (J18.block _ (by omega) (by omega)).trans fQ13
    have fX18 : W18.heap[W7.heap.size]? = some (.cells #[.string ⟨#[113, 117, 101, 114, 121]⟩, .string ⟨#[109, 117, 116, 97, 116, 105, 111, 110]⟩, .string ⟨#[115, 117, 98, 115, 99, 114, 105, 112, 116, 105, 111, 110]⟩, .string ⟨#[102, 114, 97, 103, 109, 101, 110, 116]⟩] 9 (0, 0)) := (J18.block _ (by omega) (by omega)).trans fX13
    have fN18 : W18.heap[W12.heap.size]? = some (.cells #[.string ⟨#[113, 117, 101, 114, 121]⟩, .int .i64 l0, .int .i64 o0] 120 (0, 0)) := (J18.block _ (by omega) (by omega)).trans fN13
    have K18 := K13.trans J18
    clear fP13 fR13 fQ13 fX13 fN13 K13 C13 J18
    obtain ⟨z1, z2, z3, z4, z5, z6, z7, z8, z9, u1, u2, u3, u4, u5, u6, rfl⟩ := hpo.shape
    have HP := hide hpo
    clear hpo
    have HT := hide (dt.there_cells fR18 (o := 0) (n := 9) (by decide))
    have HF := hide (And.intro C18 K18)
    clear C18 K18
    go_wp2_with (first
     | refine wpList_store_mid (by rfl) 53 _ _ (by rfl) (w.heap.size + 1) 0 (defC z1 z2 z3 z4 z5 z6 z7 z8 z9 u1 u2 u3 u4 u5 u6).toArray (by rfl) (by rfl) (unhide HT) infoDef (dt.one_cells (cs := defC z1 z2 z3 z4 z5 z6 z7 z8 z9 u1 u2 u3 u4 u5 u6) (by rfl)) ?_)
    refine bodyPost_ret (rgn.result_row_tmp rfl _ _ (w.heap.size + 1) 0 (defC z1 z2 z3 z4 z5 z6 z7 z8 z9 u1 u2 u3 u4 u5 u6) _ rfl (World.rangeAt_setCells_same _ _ _ _ (unhide HT)) Tryz.underlying53 rfl infoDef) rfl ?_
    obtain ⟨hC, hK⟩ := unhide HF
    have hpo := unhide HP
    rw [unhide hvv]
    exact ⟨_, F, rfl, ⟨⟨_, _, _, _, _, _, _, _, _, _, _, _, _, _, _, rfl⟩, fun d e => let hh := hpo.own d e; ⟨ow_out hh.1 (fun hb => by have := (hh.2.2 _ hb).1; omega) 0 _, hh.2.1, fun b hb => ⟨by have := (hh.2.2 b hb).1; omega, by rw [dt.size_setCells]; exact (hh.2.2 b hb).2⟩⟩⟩, hC.out (by omega) (by omega) _ _, hK.out (by omega) _ _⟩
   ·have hvv := hide ((unhide hv).2.1 (by first | rfl | trivial))
    clear hv
    unfold bMut
    have fP13 : (W12.alloc (.cells #[.string ⟨#[109, 117, 116, 97, 116, 105, 111, 110]⟩, .int .i64 l0, .int .i64 o0] 120)).heap[w.heap.size]? = some (.cells #[.pointer (some ⟨B, 0, none⟩)] 83 (0, 0)) := (Below.heap_alloc W12 _ _ (by omega)).trans fP12
    have fR13 : (W12.alloc (.cells #[.string ⟨#[109, 117, 116, 97, 116, 105, 111, 110]⟩, .int .i64 l0, .int .i64 o0] 120)).heap[(w.heap.size + 1)]? = some (.cells #[.int .i64 0, .string ⟨#[]⟩, .string ⟨#[]⟩, .bool false, .slice none 0 0, .slice none 0 0, .slice none 0 0, .int .i64 0, .int .i64 0] 53 (0, 0)) := (Below.heap_alloc W12 _ _ (by omega)).trans fR12
    have fQ13 : (W12.alloc (.cells #[.string ⟨#[109, 117, 116, 97, 116, 105, 111, 110]⟩, .int .i64 l0, .int .i64 o0] 120)).heap[W2.heap.size]? = some (.cells #[.int .i64 l0, .int .i64 o0] 28 (0, 0)) := (Below.heap_alloc W12 _ _ (by omega)).trans fQ12
    have fX13 : (W12.alloc (.cells #[.string ⟨#[109, 117, 116, 97, 116, 105, 111, 110]⟩, .int .i64 l0, .int .i64 o0] 120)).heap[W7.heap.size]? = some (.cells #[.string ⟨#[113, 117, 101, 114, 121]⟩, .string ⟨#[109, 117, 116, 97, 116, 105, 111, 110]⟩, .string ⟨#[115, 117, 98, 115, 99, 114, 105, 112, 116, 105, 111, 110]⟩, .string ⟨#[102, 114, 97, 103, 109, 101, 110, 116]⟩] 9 (0, 0)) := (Below.heap_alloc W12 _ _ (by omega)).trans fX12
    have fN13 : (W12.alloc (.cells #[.string ⟨#[109, 117, 116, 97, 116, 105, 111, 110]⟩, .int .i64 l0, .int .i64 o0] 120)).heap[W12.heap.size]? = some (.cells #[.string ⟨#[109, 117, 116, 97, 116, 105, 111, 110]⟩, .int .i64 l0, .int .i64 o0] 120 (0, 0)) := heap_alloc_new _ _
    have bb13 : Below W12.heap.size W12 (W12.alloc (.cells #[.string ⟨#[109, 117, 116, 97, 116, 105, 111, 110]⟩, .int .i64 l0, .int .i64 o0] 120)) := (Below.refl _ _).alloc (Nat.le_refl _) _
    have C13 := C12.below bb13
    have K13 := K12.trans (Kp.of bb13)
    have cP14_0 : (W12.alloc (.cells #[.string ⟨#[109, 117, 116, 97, 116, 105, 111, 110]⟩, .int .i64 l0, .int .i64 o0] 120)).cell? ⟨w.heap.size, 0, none⟩ = some (.pointer (some ⟨B, 0, none⟩)) := (dt.cell_cells fP13 0).trans rfl
    have cQ15_0 : (W12.alloc (.cells #[.string ⟨#[109, 117, 116, 97, 116, 105, 111, 110]⟩, .int .i64 l0, .int .i64 o0] 120)).cell? ⟨W2.heap.size, 0, none⟩ = some (.int .i64 l0) := (dt.cell_cells fQ13 0).trans rfl
    have cQ15_1 : (W12.alloc (.cells #[.string ⟨#[109, 117, 116, 97, 116, 105, 111, 110]⟩, .int .i64 l0, .int .i64 o0] 120)).cell? ⟨W2.heap.size, 1, none⟩ = some (.int .i64 o0) := (dt.cell_cells fQ13 1).trans rfl
    have HH16 := hide (And.intro fP13 (And.intro fR13 (And.intro fQ13 (And.intro fX13 (And.intro fN13 (And.intro C13 (And.intro K13 (And.intro fP12 (And.intro fR12 (And.intro fQ12 (And.intro fX12 (And.intro K12 (C12)))))))))))))
    clear fP13 fR13 fQ13 fX13 fN13 C13 K13 fP12 fR12 fQ12 fX12 K12 C12
    go_wp2_with fail
    obtain ⟨fP13, fR13, fQ13, fX13, fN13, C13, K13, fP12, fR12, fQ12, fX12, K12, C12⟩ := unhide HH16
    clear HH16
    obtain ⟨W17, hW17⟩ : ∃ W17, W17 = (W12.alloc (.cells #[.string ⟨#[109, 117, 116, 97, 116, 105, 111, 110]⟩, .int .i64 l0, .int .i64 o0] 120)) := ⟨_, rfl⟩
    rw [← hW17] at fP13 fR13 fQ13 fX13 fN13 C13 K13 ⊢
    have sz17 : W12.heap.size + 1 ≤ W17.heap.size := by rw [hW17]; simp only [size_setC, dt.size_setCells, World.size_alloc]; exact Nat.le_refl _
    clear hW17 cP14_0 cQ15_0 cQ15_1 fP12 fR12 fQ12 fX12 K12 C12
    refine ((unhide ho2) (by first | rfl | trivial) 2 _ C13).mono ?_
    rintro e W18 ⟨cs, F, rfl, hpo, C18, J18⟩
    have sz18 := J18.size
    have fP18 : W18.heap[w.heap.size]? = some (.cells #[.pointer (some ⟨B, 0, none⟩)] 83 (0, 0)) := (J18.block _ (by omega) (by omega)).trans fP13
    have fR18 : W18.heap[(w.heap.size + 1)]? = some (.cells #[.int .i64 0, .string ⟨#[]⟩, .string ⟨#[]⟩, .bool false, .slice none 0 0, .slice none 0 0, .slice none 0 0, .int .i64 0, .int .i64 0] 53 (0, 0)) := (J18.block _ (by omega) (by omega)).trans fR13
    have fQ18 : W18.heap[W2.heap.size]? = some (.cells #[.int .i64 l0, .int .i64 o0] 28 (0, 0)) := (J18.block _ (by omega) (by omega)).trans fQ13
    have fX18 : W18.heap[W7.heap.size]? = some (.cells #[.string ⟨#[113, 117, 101, 114, 121]⟩, .string ⟨#[109, 117, 116, 97, 116, 105, 111, 110]⟩, .string ⟨#[115, 117, 98, 115, 99, 114, 105, 112, 116, 105, 111, 110]⟩, .string ⟨#[102, 114, 97, 103, 109, 101, 110, 116]⟩] 9 (0, 0)) := (J18.block _ (by omega) (by omega)).trans fX13
    have fN18 : W18.heap[W12.heap.size]? = some (.cells #[.string ⟨#[109, 117, 116, 97, 116, 105, 111, 110]⟩, .int .i64 l0, .int .i64 o0] 120 (0, 0)) := (J18.block _ (by omega) (by omega)).trans fN13
    have K18 := K13.trans J18
    clear fP13 fR13 fQ13 fX13 fN13 K13 C13 J18
    obtain ⟨z1, z2, z3, z4, z5, z6, z7, z8, z9, u1, u2, u3, u4, u5, u6, rfl⟩ := hpo.shape
    have HP := hide hpo
    clear hpo
    have HT := hide (dt.there_cells fR18 (o := 0) (n := 9) (by decide))
    have HF := hide (And.intro C18 K18)
    clear C18 K18
    go_wp2_with (first
     | refine wpList_store_mid (by rfl) 53 _ _ (by rfl) (w.heap.size + 1) 0 (defC z1 z2 z3 z4 z5 z6 z7 z8 z9 u1 u2 u3 u4 u5 u6).toArray (by rfl) (by rfl) (unhide HT) infoDef (dt.one_cells (cs := defC z1 z2 z3 z4 z5 z6 z7 z8 z9 u1 u2 u3 u4 u5 u6) (by rfl)) ?_)
    refine bodyPost_ret (rgn.result_row_tmp rfl _ _ (w.heap.size + 1) 0 (defC z1 z2 z3 z4 z5 z6 z7 z8 z9 u1 u2 u3 u4 u5 u6) _ rfl (World.rangeAt_setCells_same _ _ _ _ (unhide HT)) Tryz.underlying53 rfl infoDef) rfl ?_
    obtain ⟨hC, hK⟩ := unhide HF
    have hpo := unhide HP
    rw [unhide hvv]
    exact ⟨_, F, rfl, ⟨⟨_, _, _, _, _, _, _, _, _, _, _, _, _, _, _, rfl⟩, fun d e => let hh := hpo.own d e; ⟨ow_out hh.1 (fun hb => by have := (hh.2.2 _ hb).1; omega) 0 _, hh.2.1, fun b hb => ⟨by have := (hh.2.2 b hb).1; omega, by rw [dt.size_setCells]; exact (hh.2.2 b hb).2⟩⟩⟩, hC.out (by omega) (by omega) _ _, hK.out (by omega) _ _⟩
   ·have hvv := hide ((unhide hv).2.2.1 (by first | rfl | trivial))
    clear hv
    unfold bSub
    have fP13 : (W12.alloc (.cells #[.string ⟨#[115, 117, 98, 115, 99, 114, 105, 112, 116, 105, 111, 110]⟩, .int .i64 l0, .int .i64 o0] 120)).heap[w.heap.size]? = some (.cells #[.pointer (some ⟨B, 0, none⟩)] 83 (0, 0)) := (Below.heap_alloc W12 _ _ (by omega)).trans fP12
    have fR13 : (W12.alloc (.cells #[.string ⟨#[115, 117, 98, 115, 99, 114, 105, 112, 116, 105, 111, 110]⟩, .int .i64 l0, .int .i64 o0] 120)).heap[(w.heap.size + 1)]? = some (.cells #[.int .i64 0, .string ⟨#[]⟩, .string ⟨#[]⟩, .bool false, .slice none 0 0, .slice none 0 0, .slice none 0 0, .int .i64 0, .int .i64 0] 53 (0, 0)) := (Below.heap_alloc W12 _ _ (by omega)).trans fR12
    have fQ13 : (W12.alloc (.cells #[.string ⟨#[115, 117, 98, 115, 99, 114, 105, 112, 116, 105, 111, 110]⟩, .int .i64 l0, .int .i64 o0] 120)).heap[W2.heap.size]? = some (.cells #[.int .i64 l0, .int .i64 o0] 28 (0, 0)) := (Below.heap_alloc W12 _ _ (by omega)).trans fQ12
    have fX13 : (W12.alloc (.cells #[.string ⟨#[115, 117, 98, 115, 99, 114, 105, 112, 116, 105, 111, 110]⟩, .int .i64 l0, .int .i64 o0] 120)).heap[W7.heap.size]? = some (.cells #[.string ⟨#[113, 117, 101, 114, 121]⟩, .string ⟨#[109, 117, 116, 97, 116, 105, 111, 110]⟩, .string ⟨#[115, 117, 98, 115, 99, 114, 105, 112, 116, 105, 111, 110]⟩, .string ⟨#[102, 114, 97, 103, 109, 101, 110, 116]⟩] 9 (0, 0)) := (Below.heap_alloc W12 _ _ (by omega)).trans fX12
    have fN13 : (W12.alloc (.cells #[.string ⟨#[115, 117, 98, 115, 99, 114, 105, 112, 116, 105, 111, 110]⟩, .int .i64 l0, .int .i64 o0] 120)).heap[W12.heap.size]? = some (.cells #[.string ⟨#[115, 117, 98, 115, 99, 114, 105, 112, 116, 105, 111, 110]⟩, .int .i64 l0, .int .i64 o0] 120 (0, 0)) := heap_alloc_new _ _
    have bb13 : Below W12.heap.size W12 (W12.alloc (.cells #[.string ⟨#[115, 117, 98, 115, 99, 114, 105, 112, 116, 105, 111, 110]⟩, .int .i64 l0, .int .i64 o0] 120)) := (Below.refl _ _).alloc (Nat.le_refl _) _
    have C13 := C12.below bb13
    have K13 := K12.trans (Kp.of bb13)
    have cP14_0 : (W12.alloc (.cells #[.string ⟨#[115, 117, 98, 115, 99, 114, 105, 112, 116, 105, 111, 110]⟩, .int .i64 l0, .int .i64 o0] 120)).cell? ⟨w.heap.size, 0, none⟩ = some (.pointer (some ⟨B, 0, none⟩)) := (dt.cell_cells fP13 0).trans rfl
    have cQ15_0 : (W12.alloc (.cells #[.string ⟨#[115, 117, 98, 115, 99, 114, 105, 112, 116, 105, 111, 110]⟩, .int .i64 l0, .int .i64 o0] 120)).cell? ⟨W2.heap.size, 0, none⟩ = some (.int .i64 l0) := (dt.cell_cells fQ13 0).trans rfl
    have cQ15_1 : (W12.alloc (.cells #[.string ⟨#[115, 117, 98, 115, 99, 114, 105, 112, 116, 105, 111, 110]⟩, .int .i64 l0, .int .i64 o0] 120)).cell? ⟨W2.heap.size, 1, none⟩ = some (.int .i64 o0) := (dt.cell_cells fQ13 1).trans rfl
    have HH16 := hide (And.intro fP13 (And.intro fR13 (And.intro fQ13 (And.intro fX13 (And.intro fN13 (And.intro C13 (And.intro K13 (And.intro fP12 (And.intro fR12 (And.intro fQ12 (And.intro fX12 (And.intro K12 (C12)))))))))))))
    clear fP13 fR13 fQ13 fX13 fN13 C13 K13 fP12 fR12 fQ12 fX12 K12 C12
    go_wp2_with fail
    obtain ⟨fP13, fR13, fQ13, fX13, fN13, C13, K13, fP12, fR12, fQ12, fX12, K12, C12⟩ := unhide HH16
    clear HH16
    obtain ⟨W17, hW17⟩ : ∃ W17, W17 = (W12.alloc (.cells #[.string ⟨#[115, 117, 98, 115, 99, 114, 105, 112, 116, 105, 111, 110]⟩, .int .i64 l0, .int .i64 o0] 120)) := ⟨_, rfl⟩
    rw [← hW17] at fP13 fR13 fQ13 fX13 fN13 C13 K13 ⊢
    have sz17 : W12.heap.size + 1 ≤ W17.heap.size := by rw [hW17]; simp only [size_setC, dt.size_setCells, World.size_alloc]; exact Nat.le_refl _
    clear hW17 cP14_0 cQ15_0 cQ15_1 fP12 fR12 fQ12 fX12 K12 C12
    refine ((unhide ho2) (by first | rfl | trivial) 3 _ C13).mono ?_
    rintro e W18 ⟨cs, F, rfl, hpo, C18, J18⟩
    have sz18 := J18.size
    have fP18 : W18.heap[w.heap.size]? = some (.cells #[.pointer (some ⟨B, 0, none⟩)] 83 (0, 0)) := (J18.block _ (by omega) (by omega)).trans fP13
    have fR18 : W18.heap[(w.heap.size + 1)]? = some (.cells #[.int .i64 0, .string ⟨#[]⟩, .string ⟨#[]⟩, .bool false, .slice none 0 0, .slice none 0 0, .slice none 0 0, .int .i64 0, .int .i64 0] 53 (0, 0)) := (J18.block _ (by omega) (by omega)).trans fR13
    have fQ18 : W18.heap[W2.heap.size]? = some (.cells #[.int .i64 l0, .int .i64 o0] 28 (0, 0)) := (J18.block _ (by omega) (by omega)).trans fQ13
    have fX18 : W18.heap[W7.heap.size]? = some (.cells #[.string ⟨#[113, 117, 101, 114, 121]⟩, .string ⟨#[109, 117, 116, 97, 116, 105, 111, 110]⟩, .string ⟨#[115, 117, 98, 115, 99, 114, 105, 112, 116, 105, 111, 110]⟩, .string ⟨#[102, 114, 97, 103, 109, 101, 110, 116]⟩] 9 (0, 0)) := (J18.block _ (by omega) (by omega)).trans fX13
    have fN18 : W18.heap[W12.heap.size]? = some (.cells #[.string ⟨#[115, 117, 98, 115, 99, 114, 105, 112, 116, 105, 111, 110]⟩, .int .i64 l0, .int .i64 o0] 120 (0, 0)) := (J18.block _ (by omega) (by omega)).trans fN13
    have K18 := K13.trans J18
    clear fP13 fR13 fQ13 fX13 fN13 K13 C13 J18
    obtain ⟨z1, z2, z3, z4, z5, z6, z7, z8, z9, u1, u2, u3, u4, u5, u6, rfl⟩ := hpo.shape
    have HP := hide hpo
    clear hpo
    have HT := hide (dt.there_cells fR18 (o := 0) (n := 9) (by decide))
    have HF := hide (And.intro C18 K18)
    clear C18 K18
    go_wp2_with (first
     | refine wpList_store_mid (by rfl) 53 _ _ (by rfl) (w.heap.size + 1) 0 (defC z1 z2 z3 z4 z5 z6 z7 z8 z9 u1 u2 u3 u4 u5 u6).toArray (by rfl) (by rfl) (unhide HT) infoDef (dt.one_cells (cs := defC z1 z2 z3 z4 z5 z6 z7 z8 z9 u1 u2 u3 u4 u5 u6) (by rfl)) ?_)
    refine bodyPost_ret (rgn.result_row_tmp rfl _ _ (w.heap.size + 1) 0 (defC z1 z2 z3 z4 z5 z6 z7 z8 z9 u1 u2 u3 u4 u5 u6) _ rfl (World.rangeAt_setCells_same _ _ _ _ (unhide HT)) Tryz.underlying53 rfl infoDef) rfl ?_
    obtain ⟨hC, hK⟩ := unhide HF
    have hpo := unhide HP
    rw [unhide hvv]
    exact ⟨_, F, rfl, ⟨⟨_, _, _, _, _, _, _, _, _, _, _, _, _, _, _, rfl⟩, fun d e => let hh := hpo.own d e; ⟨ow_out hh.1 (fun hb => by have := (hh.2.2 _ hb).1; omega) 0 _, hh.2.1, fun b hb => ⟨by have := (hh.2.2 b hb).1; omega, by rw [dt.size_setCells]; exact (hh.2.2 b hb).2⟩⟩⟩, hC.out (by omega) (by omega) _ _, hK.out (by omega) _ _⟩
   ·have hvv := hide ((unhide hv).2.2.2 (by first | rfl | trivial))
    clear hv
    unfold bFrag
    have fP13 : (W12.alloc (.cells #[.string ⟨#[102, 114, 97, 103, 109, 101, 110, 116]⟩, .int .i64 l0, .int .i64 o0] 120)).heap[w.heap.size]? = some (.cells #[.pointer (some ⟨B, 0, none⟩)] 83 (0, 0)) := (Below.heap_alloc W12 _ _ (by omega)).trans fP12
    have fR13 : (W12.alloc (.cells #[.string ⟨#[102, 114, 97, 103, 109, 101, 110, 116]⟩, .int .i64 l0, .int .i64 o0] 120)).heap[(w.heap.size + 1)]? = some (.cells #[.int .i64 0, .string ⟨#[]⟩, .string ⟨#[]⟩, .bool false, .slice none 0 0, .slice none 0 0, .slice none 0 0, .int .i64 0, .int .i64 0] 53 (0, 0)) := (Below.heap_alloc W12 _ _ (by omega)).trans fR12
    have fQ13 : (W12.alloc (.cells #[.string ⟨#[102, 114, 97, 103, 109, 101, 110, 116]⟩, .int .i64 l0, .int .i64 o0] 120)).heap[W2.heap.size]? = some (.cells #[.int .i64 l0, .int .i64 o0] 28 (0, 0)) := (Below.heap_alloc W12 _ _ (by omega)).trans fQ12
    have fX13 : (W12.alloc (.cells #[.string ⟨#[102, 114, 97, 103, 109, 101, 110, 116]⟩, .int .i64 l0, .int .i64 o0] 120)).heap[W7.heap.size]? = some (.cells #[.string ⟨#[113, 117, 101, 114, 121]⟩, .string ⟨#[109, 117, 116, 97, 116, 105, 111, 110]⟩, .string ⟨#[115, 117, 98, 115, 99, 114, 105, 112, 116, 105, 111, 110]⟩, .string ⟨#[102, 114, 97, 103, 109, 101, 110, 116]⟩] 9 (0, 0)) := (Below.heap_alloc W12 _ _ (by omega)).trans fX12
    have fN13 : (W12.alloc (.cells #[.string ⟨#[102, 114, 97, 103, 109, 101, 110, 116]⟩, .int .i64 l0, .int .i64 o0] 120)).heap[W12.heap.size]? = some (.cells #[.string ⟨#[102, 114, 97, 103, 109, 101, 110, 116]⟩, .int .i64 l0, .int .i64 o0] 120 (0, 0)) := heap_alloc_new _ _
    have bb13 : Below W12.heap.size W12 (W12.alloc (.cells #[.string ⟨#[102, 114, 97, 103, 109, 101, 110, 116]⟩, .int .i64 l0, .int .i64 o0] 120)) := (Below.refl _ _).alloc (Nat.le_refl _) _
    have C13 := C12.below bb13
    have K13 := K12.trans (Kp.of bb13)
    have cP14_0 : (W12.alloc (.cells #[.string ⟨#[102, 114, 97, 103, 109, 101, 110, 116]⟩, .int .i64 l0, .int .i64 o0] 120)).cell? ⟨w.heap.size, 0, none⟩ = some (.pointer (some ⟨B, 0, none⟩)) := (dt.cell_cells fP13 0).trans rfl
    have cQ15_0 : (W12.alloc (.cells #[.string ⟨#[102, 114, 97, 103, 109, 101, 110, 116]⟩, .int .i64 l0, .int .i64 o0] 120)).cell? ⟨W2.heap.size, 0, none⟩ = some (.int .i64 l0) := (dt.cell_cells fQ13 0).trans rfl
    have cQ15_1 : (W12.alloc (.cells #[.string ⟨#[102, 114, 97, 103, 109, 101, 110, 116]⟩, .int .i64 l0, .int .i64 o0] 120)).cell? ⟨W2.heap.size, 1, none⟩ = some (.int .i64 o0) := (dt.cell_cells fQ13 1).trans rfl
    have HH16 := hide (And.intro fP13 (And.intro fR13 (And.intro fQ13 (And.intro fX13 (And.intro fN13 (And.intro C13 (And.intro K13 (And.intro fP12 (And.intro fR12 (And.intro fQ12 (And.intro fX12 (And.intro K12 (C12)))))))))))))
    clear fP13 fR13 fQ13 fX13 fN13 C13 K13 fP12 fR12 fQ12 fX12 K12 C12
    go_wp2_with fail
    obtain ⟨fP13, fR13, fQ13, fX13, fN13, C13, K13, fP12, fR12, fQ12, fX12, K12, C12⟩ := unhide HH16
    clear HH16
    obtain ⟨W17, hW17⟩ : ∃ W17, W17 = (W12.alloc (.cells #[.string ⟨#[102, 114, 97, 103, 109, 101, 110, 116]⟩, .int .i64 l0, .int .i64 o0] 120)) := ⟨_, rfl⟩
    rw [← hW17] at fP13 fR13 fQ13 fX13 fN13 C13 K13 ⊢
    have sz17 : W12.heap.size + 1 ≤ W17.heap.size := by rw [hW17]; simp only [size_setC, dt.size_setCells, World.size_alloc]; exact Nat.le_refl _
    clear hW17 cP14_0 cQ15_0 cQ15_1 fP12 fR12 fQ12 fX12 K12 C12
    refine ((unhide hf) (by first | rfl | trivial) _ C13).mono ?_
    rintro e W18 ⟨cs, F, rfl, hpo, C18, J18⟩
    have sz18 := J18.size
    have fP18 : W18.heap[w.heap.size]? = some (.cells #[.pointer (some ⟨B, 0, none⟩)] 83 (0, 0)) := (J18.block _ (by omega) (by omega)).trans fP13
    have fR18 : W18.heap[(w.heap.size + 1)]? = some (.cells #[.int .i64 0, .string ⟨#[]⟩, .string ⟨#[]⟩, .bool false, .slice none 0 0, .slice none 0 0, .slice none 0 0, .int .i64 0, .int .i64 0] 53 (0, 0)) := (J18.block _ (by omega) (by omega)).trans fR13
    have fQ18 : W18.heap[W2.heap.size]? = some (.cells #[.int .i64 l0, .int .i64 o0] 28 (0, 0)) := (J18.block _ (by omega) (by omega)).trans fQ13
    have fX18 : W18.heap[W7.heap.size]? = some (.cells #[.string ⟨#[113, 117, 101, 114, 121]⟩, .string ⟨#[109, 117, 116, 97, 116, 105, 111, 110]⟩, .string ⟨#[115, 117, 98, 115, 99, 114, 105, 112, 116, 105, 111, 110]⟩, .string ⟨#[102, 114, 97, 103, 109, 101, 110, 116]⟩] 9 (0, 0)) := (J18.block _ (by omega) (by omega)).trans fX13
    have fN18 : W18.heap[W12.heap.size]? = some (.cells #[.string ⟨#[102, 114, 97, 103, 109, 101, 110, 116]⟩, .int .i64 l0, .int .i64 o0] 120 (0, 0)) := (J18.block _ (by omega) (by omega)).trans fN13
    have K18 := K13.trans J18
    clear fP13 fR13 fQ13 fX13 fN13 K13 C13 J18
    obtain ⟨z1, z2, z3, z4, z5, z6, z7, z8, z9, u1, u2, u3, u4, u5, u6, rfl⟩ := hpo.shape
    have HP := hide hpo
    clear hpo
    have HT := hide (dt.there_cells fR18 (o := 0) (n := 9) (by decide))
    have HF := hide (And.intro C18 K18)
    clear C18 K18
    go_wp2_with (first
     | refine wpList_store_mid (by rfl) 53 _ _ (by rfl) (w.heap.size + 1) 0 (defC z1 z2 z3 z4 z5 z6 z7 z8 z9 u1 u2 u3 u4 u5 u6).toArray (by rfl) (by rfl) (unhide HT) infoDef (dt.one_cells (cs := defC z1 z2 z3 z4 z5 z6 z7 z8 z9 u1 u2 u3 u4 u5 u6) (by rfl)) ?_)
    refine bodyPost_ret (rgn.result_row_tmp rfl _ _ (w.heap.size + 1) 0 (defC z1 z2 z3 z4 z5 z6 z7 z8 z9 u1 u2 u3 u4 u5 u6) _ rfl (World.rangeAt_setCells_same _ _ _ _ (unhide HT)) Tryz.underlying53 rfl infoDef) rfl ?_
    obtain ⟨hC, hK⟩ := unhide HF
    have hpo := unhide HP
    rw [unhide hvv]
    exact ⟨_, F, rfl, ⟨⟨_, _, _, _, _, _, _, _, _, _, _, _, _, _, _, rfl⟩, fun d e => let hh := hpo.own d e; ⟨ow_out hh.1 (fun hb => by have := (hh.2.2 _ hb).1; omega) 0 _, hh.2.1, fun b hb => ⟨by have := (hh.2.2 b hb).1; omega, by rw [dt.size_setCells]; exact (hh.2.2 b hb).2⟩⟩⟩, hC.out (by omega) (by omega) _ _, hK.out (by omega) _ _⟩
 ·have hv := hide ((unhide hv1) (by first | rfl | trivial))
  clear hv1 hv2' hv3 hiw ho2 hf hn1 hn0 hw
  have cP8_0 : W7.cell? ⟨w.heap.size, 0, none⟩ = some (.pointer (some ⟨B, 0, none⟩)) := (dt.cell_cells fP7 0).trans rfl
  have HH9 := hide (And.intro fP7 (And.intro fR7 (And.intro fQ7 (And.intro C7 (K7)))))
  clear fP7 fR7 fQ7 C7 K7
  go_wp2_with fail
  obtain ⟨fP7, fR7, fQ7, C7, K7⟩ := unhide HH9
  clear HH9
  refine ((unhide hss) (by first | rfl | trivial) _ C7).mono ?_
  rintro e W10 ⟨sl, rfl, hbp, C10, J10⟩
  have sz10 := J10.size
  have fP10 : W10.heap[w.heap.size]? = some (.cells #[.pointer (some ⟨B, 0, none⟩)] 83 (0, 0)) := (J10.block _ (by omega) (by omega)).trans fP7
  have fR10 : W10.heap[(w.heap.size + 1)]? = some (.cells #[.int .i64 0, .string ⟨#[]⟩, .string ⟨#[]⟩, .bool false, .slice none 0 0, .slice none 0 0, .slice none 0 0, .int .i64 0, .int .i64 0] 53 (0, 0)) := (J10.block _ (by omega) (by omega)).trans fR7
  have fQ10 : W10.heap[W2.heap.size]? = some (.cells #[.int .i64 l0, .int .i64 o0] 28 (0, 0)) := (J10.block _ (by omega) (by omega)).trans fQ7
  have K10 := K7.trans J10
  clear fP7 fR7 fQ7 K7 C7 J10 cP8_0
  have loE := sz10
  obtain ⟨a3, n3, c3, F3, rfl, sE10⟩ := brkS_form hbp
  clear hbp hss
  have cQ11_0 : W10.cell? ⟨W2.heap.size, 0, none⟩ = some (.int .i64 l0) := (dt.cell_cells fQ10 0).trans rfl
  have cQ11_1 : W10.cell? ⟨W2.heap.size, 1, none⟩ = some (.int .i64 o0) := (dt.cell_cells fQ10 1).trans rfl
  have HE := hide sE10
  clear sE10
  have HT := hide (dt.there_cells fR10 (o := 0) (n := 9) (by decide))
  have HF := hide (And.intro C10 K10)
  clear C10 K10
  go_wp2_with (first
   | refine wpList_store_mid (by rfl) 53 _ _ (by rfl) (w.heap.size + 1) 0 (defC 1 em em true none 0 0 none 0 0 a3 n3 c3 l0 o0).toArray (by rfl) (by rfl) (unhide HT) infoDef (dt.one_cells (cs := defC 1 em em true none 0 0 none 0 0 a3 n3 c3 l0 o0) (by rfl)) ?_)
  refine bodyPost_ret (rgn.result_row_tmp rfl _ _ (w.heap.size + 1) 0 (defC 1 em em true none 0 0 none 0 0 a3 n3 c3 l0 o0) _ rfl (World.rangeAt_setCells_same _ _ _ _ (unhide HT)) Tryz.underlying53 rfl infoDef) rfl ?_
  obtain ⟨hC, hK⟩ := unhide HF
  have hE := unhide HE
  rw [unhide hv]
  cases q with
  | none =>
   exact ⟨_, [], rfl, ⟨⟨_, _, _, _, _, _, _, _, _, _, _, _, _, _, _, rfl⟩, fun d e => by cases e⟩, hC.out (by omega) (by omega) _ _, hK.out (by omega) _ _⟩
  | some ss =>
   have hE2 := hE.out (b := (w.heap.size + 1)) (.inl (by omega)) 0 (defC 1 em em true none 0 0 none 0 0 a3 n3 c3 l0 o0)
   obtain ⟨F', p1, p2, p3⟩ := def_ow (Sh.nil (lo := w.heap.size) (hi := 0) (Nat.zero_le _)) (Sh.nil (lo := w.heap.size) (hi := w.heap.size) (by rw [dt.size_setCells]; omega)) hE2 (by omega) (by omega) (by omega) 1 em em true l0 o0 w.heap.size (by omega) (by omega) (by omega)
   exact ⟨_, F', rfl, ⟨⟨_, _, _, _, _, _, _, _, _, _, _, _, _, _, _, rfl⟩, fun d e => by obtain rfl := Option.some.inj e; exact ⟨p1, p2, p3⟩⟩, hC.out (by omega) (by omega) _ _, hK.out (by omega) _ _⟩
end Go.Proofs.YtcebeajjpcbgcaaGreat.cu
