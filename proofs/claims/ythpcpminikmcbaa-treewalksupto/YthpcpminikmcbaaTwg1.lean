import Derived.Test.YthpcpminikmcbaaRows
import Derived.RangeFuncNested
import Derived.RangeFuncBound
import Derived.RangeFuncCalls
import Derived.RangeFuncLeaves
import Derived.WalkKit
import Derived.ProofKit
import Derived.OpenShut
import Derived.ShutString
import Derived.Below
import Derived.SizedLaws
import Derived.Deep.Strs
import Derived.Deep.MidRow
import Derived.Deep.WholeRow
import Derived.Lib.SliceRun
import Derived.Laws.OwnMore
import Derived.Outline
import Derived.Laws.Pointers
import Derived.Laws.Rows
import Derived.Deep.RegionHeld3
import Derived.OrdersHeld
import Derived.Laws.ResultCell
namespace Go.Proofs.Ythpcpminikmcbaa.wk
open Go.RowKit
set_option linter.unusedVariables false
variable {F : Fence} {n : Nat} {P : Program}
/-- how a round's body is left: the record was busy; it is ready again, or done with a jump pending -/
def endT (l : Nat) (mk : LoopState → Option Code → Loop) (R : Ending → World → Prop) : Exit → Act → World → Prop
  | .normal, _, W => W.heap[l]? = some (.loop (mk .busy none)) ∧ R (.returned (.bool true)) (W.putObj l (.loop (mk .ready none)))
  | .ret, _, W => W.heap[l]? = some (.loop (mk .busy none)) ∧ R (.returned (.bool false)) (W.putObj l (.loop (mk .done (some .ret))))
  | .exit id, _, W => W.heap[l]? = some (.loop (mk .busy none)) ∧ R (.returned (.bool false)) (W.putObj l (.loop (mk .done (some (.exit id)))))
  | .goto t, _, W => W.heap[l]? = some (.loop (mk .busy none)) ∧ R (.returned (.bool false)) (W.putObj l (.loop (mk .done (some (.goto t)))))
  | .panic _, _, _ => False
  | .outgrown, _, _ => False
/-- one round of a loop whose record lies at l -/
theorem round_at {l m : Nat} {fn : FuncId} {tmps : Array Value} {ps : Array Tmp} {assign body : Code} {D : Nat} {W : World} {args : Array Value} {R : Ending → World → Prop} {mk : LoopState → Option Code → Loop}
    (hmk : mk = fun st pe => { state := st, pending := pe, fn, tmps, params := ps, assign, body, defers := D }) (hfn : F.fn fn) (hps : args.size = ps.size) (hl : W.heap[l]? = some (.loop (mk .ready none)))
    (h : assign.wpIn (F.inRound l) m P (Exit.then (fun a' Wa => Wa.heap[l]? = some (.loop (mk .ready none)) ∧ body.wpIn (F.inRound l) m P (endT l mk R) a' (Wa.putObj l (.loop (mk .busy none)))) (fun _ _ _ => False)) { tmps := (ps.zip args).foldl (fun t (p, v) => t.setIfInBounds p v) tmps, defers := [] } W) :
    YieldAt F m P l args W R := by
  have hy := run_yield (P := P) (args := args) hl (by rw [hmk]; exact hps)
  rw [hmk] at hy
  refine ⟨fn, _, assign, body, hy, roundIn_of_wpIn hfn (wpIn_mono h ?_)⟩
  clear hy h
  intro e a' Wa hp
  cases e with
  | normal =>
    obtain ⟨hla, hb⟩ := hp
    have hbr := run_beginRound (P := P) hla (by rw [hmk])
    have e1 : ({ mk .ready none with state := .busy } : Loop) = mk .busy none := by rw [hmk]
    rw [e1] at hbr
    refine ⟨_, hbr, wpIn_mono hb ?_⟩
    intro e a3 W3 hq
    have fin : ∀ jump : Option Code, W3.heap[l]? = some (.loop (mk .busy none)) → (Instr.endRound l jump).run P W3 = .ok (.bool jump.isNone) (W3.putObj l (.loop (mk (if jump.isNone then .ready else .done) jump))) := fun jump h3 => by
      have := run_endRound (P := P) jump h3
      rw [hmk] at this ⊢
      exact this
    cases e with
    | normal => exact ⟨_, _, fin none hq.1, hq.2⟩
    | ret => exact ⟨_, _, fin (some .ret) hq.1, hq.2⟩
    | exit id => exact ⟨_, _, fin (some (.exit id)) hq.1, hq.2⟩
    | goto t => exact ⟨_, _, fin (some (.goto t)) hq.1, hq.2⟩
    | panic c => exact hq.elim
    | outgrown => exact hq.elim
  | ret => exact hp.elim
  | exit id => exact hp.elim
  | goto t => exact hp.elim
  | panic c => exact hp.elim
  | outgrown => exact hp.elim
/-- an iterator that may write what C says between two rounds: J, Jx abide C; Rd: what a round may read of its element; Kp: what a round must keep -/
def SeqT {α : Type} (F : Fence) (n : Nat) (P : Program) (g : Nat) (lb : Array Value) (encs : α → Array Value) (Rd : α → World → Prop) (C : World → World → Prop) (Kp : α → World → World → Prop) (S Sp : List α → Prop) (Nx : List α → α → Prop) (W : World) : Prop :=
  ∀ (l : Nat) (J Jx : List α → World → Prop), (∀ pre A B, J pre A → C A B → J pre B) → (∀ pre A B, Jx pre A → C A B → Jx pre B) →
    (∀ pre x A, J pre A → Rd x A → Nx pre x → YieldAt F (n - 1) P l (encs x) A fun e A' =>
      (e = .returned (.bool true) ∧ J (pre ++ [x]) A' ∧ Kp x A A') ∨ (e = .returned (.bool false) ∧ Jx (pre ++ [x]) A' ∧ Kp x A A')) →
    J [] W →
    CallsIn F n P g (#[.func (.yield l) #[] #[]] ++ lb) W fun e W' => (∃ v, e = .returned v) ∧ ((∃ xs, S xs ∧ J xs W') ∨ (∃ pre, Sp pre ∧ Jx pre W'))
theorem SeqT.inRound {α : Type} {g : Nat} {lb : Array Value} {encs : α → Array Value} {Rd : α → World → Prop} {C : World → World → Prop} {Kp : α → World → World → Prop} {S Sp : List α → Prop} {Nx : List α → α → Prop} {W : World} (l : Nat) (h : SeqT F n P g lb encs Rd C Kp S Sp Nx W) : SeqT (F.inRound l) n P g lb encs Rd C Kp S Sp Nx W := h
/-- how a round's body may be left -/
def postT {α : Type} (B : Nat) (Kp : World → World → Prop) (I : List α → World → Prop) (Ix : Code → List α → World → Prop) (xs : List α) (W : World) : Exit → Act → World → Prop
  | .normal, _, W' => KeepsFrom B W W' ∧ Kp W W' ∧ I xs W'
  | .ret, _, W' => KeepsFrom B W W' ∧ Kp W W' ∧ Ix .ret xs W'
  | .exit id, _, W' => KeepsFrom B W W' ∧ Kp W W' ∧ Ix (.exit id) xs W'
  | .goto t, _, W' => KeepsFrom B W W' ∧ Kp W W' ∧ Ix (.goto t) xs W'
  | .panic _, _, _ => False
  | .outgrown, _, _ => False
section laws
variable {α : Type} {g : Operand} {ps : Array Tmp} {assign body : Code} {Q : Exit → Act → World → Prop} {a : Act} {w : World} {gf : Nat} {lb : Array Value} {encs : α → Array Value} {Rd : α → World → Prop} {C : World → World → Prop} {Kp : α → World → World → Prop} {S Sp : List α → Prop} {Nx : List α → α → Prop}
/-- the rounds of such a loop: l its record, B what lay ahead -/
theorem rounds_T {fn : FuncId} {m l B D : Nat} {mk : LoopState → Option Code → Loop} (hmk : mk = fun st pe => { state := st, pending := pe, fn, tmps := a.tmps, params := ps, assign, body, defers := D }) (hfn : F.fn fn) (hps : ∀ x, (encs x).size = ps.size) (hBl : B ≤ l)
    (hKt : ∀ x {A B C : World}, Kp x A B → Kp x B C → Kp x A C) (hKb : ∀ x W o o', W.heap[l]? = some o → Kp x W (W.putObj l o')) (I : List α → World → Prop) (Ix : Code → List α → World → Prop) (hIo : OwnFrom B I) (hIxo : ∀ c, OwnFrom B (Ix c))
    (Z : World → Prop) (hZk : ∀ A A', KeepsFrom B A A' → Z A → Z A') (hZp : ∀ A o, Z A → Z (A.putObj l o)) (Ax : α → Act → World → Prop) (hAx : ∀ x a', OwnFrom B (fun (_ : Unit) W => Ax x a' W))
    (hassign : ∀ (pre : List α) (x : α) (W : World) (K : Act → World → Prop), I pre W → Rd x W → Nx pre x → (∀ a' W', KeepsFrom B W W' → Kp x W W' → I pre W' → Ax x a' W' → K a' W') →
      assign.wpIn (F.inRound l) m P (Exit.then K (fun _ _ _ => False)) { tmps := (ps.zip (encs x)).foldl (fun t (p, v) => t.setIfInBounds p v) a.tmps, defers := [] } W)
    (hbody : ∀ (pre : List α) (x : α) (a' : Act) (W : World), (∃ r, W.heap[l]? = some (.loop r)) → I pre W → Ax x a' W → Nx pre x → body.wpIn (F.inRound l) m P (postT B (Kp x) I Ix (pre ++ [x]) W) a' W)
    (pre : List α) (x : α) (A : World) (hi : I pre A) (hl : A.heap[l]? = some (.loop (mk .ready none))) (hz : Z A) (hr : Rd x A) (hn : Nx pre x) :
    YieldAt F m P l (encs x) A fun e A' =>
      (e = .returned (.bool true) ∧ (I (pre ++ [x]) A' ∧ A'.heap[l]? = some (.loop (mk .ready none)) ∧ Z A') ∧ Kp x A A') ∨ (e = .returned (.bool false) ∧ (∃ c, Ix c (pre ++ [x]) A' ∧ A'.heap[l]? = some (.loop (mk .done (some c))) ∧ Z A') ∧ Kp x A A') := by
  refine round_at hmk hfn (hps x) hl (hassign pre x A _ hi hr hn ?_)
  intro a' Wa hk hkp hia hax
  have hla := hk.same l _ hBl hl rfl
  have hlt : l < Wa.heap.size := (Array.getElem?_eq_some_iff.1 hla).1
  refine ⟨hla, wpIn_mono (hbody pre x a' _ ⟨_, World.putObj_heap_same hlt⟩ (hIo.putObj _ hia hBl hla rfl) ((hAx x a').putObj (s := ()) _ hax hBl hla rfl) hn) ?_⟩
  have hz1 : Z (Wa.putObj l (.loop (mk .busy none))) := hZp _ _ (hZk _ _ hk hz)
  have hk1 : Kp x A (Wa.putObj l (.loop (mk .busy none))) := hKt x hkp (hKb x Wa _ _ hla)
  have hb1 : (Wa.putObj l (.loop (mk .busy none))).heap[l]? = some (.loop (mk .busy none)) := World.putObj_heap_same hlt
  clear hk hkp hia hax hla
  intro e a3 W3 hp
  have at3 : KeepsFrom B (Wa.putObj l (.loop (mk .busy none))) W3 → W3.heap[l]? = some (.loop (mk .busy none)) ∧ l < W3.heap.size ∧ Z W3 := fun h =>
    ⟨h.same l _ hBl hb1 rfl, (Array.getElem?_eq_some_iff.1 (h.same l _ hBl hb1 rfl)).1, hZk _ _ h hz1⟩
  cases e with
  | normal =>
    obtain ⟨k3, kp3, i3⟩ := hp
    obtain ⟨h3, l3, z3⟩ := at3 k3
    exact ⟨h3, .inl ⟨rfl, ⟨hIo.putObj _ i3 hBl h3 rfl, World.putObj_heap_same l3, hZp _ _ z3⟩, hKt x (hKt x hk1 kp3) (hKb x W3 _ _ h3)⟩⟩
  | ret =>
    obtain ⟨k3, kp3, i3⟩ := hp
    obtain ⟨h3, l3, z3⟩ := at3 k3
    exact ⟨h3, .inr ⟨rfl, ⟨.ret, (hIxo _).putObj _ i3 hBl h3 rfl, World.putObj_heap_same l3, hZp _ _ z3⟩, hKt x (hKt x hk1 kp3) (hKb x W3 _ _ h3)⟩⟩
  | exit id =>
    obtain ⟨k3, kp3, i3⟩ := hp
    obtain ⟨h3, l3, z3⟩ := at3 k3
    exact ⟨h3, .inr ⟨rfl, ⟨.exit id, (hIxo _).putObj _ i3 hBl h3 rfl, World.putObj_heap_same l3, hZp _ _ z3⟩, hKt x (hKt x hk1 kp3) (hKb x W3 _ _ h3)⟩⟩
  | goto t =>
    obtain ⟨k3, kp3, i3⟩ := hp
    obtain ⟨h3, l3, z3⟩ := at3 k3
    exact ⟨h3, .inr ⟨rfl, ⟨.goto t, (hIxo _).putObj _ i3 hBl h3 rfl, World.putObj_heap_same l3, hZp _ _ z3⟩, hKt x (hKt x hk1 kp3) (hKb x W3 _ _ h3)⟩⟩
  | panic c => exact hp.elim
  | outgrown => exact hp.elim
/-- an outermost loop over such an iterator -/
theorem wpT_H (hro : F.round = none) (h1 : 1 ≤ n) (hg : a.eval g = .func (.func gf) #[] lb) (hFg : F.fn gf) (eg : ∀ args w, (callFunc gf args).run P w = .ok (.enter gf args) w)
    (hseq : ∀ W1, Below w.heap.size w W1 → W1.heap.size = w.heap.size + 2 → SeqT F (n - 1) P gf lb encs Rd C Kp S Sp Nx W1) (hC : ∀ A B, C A B → ∀ k, w.heap.size ≤ k → k < w.heap.size + 2 → k < A.heap.size → B.heap[k]? = A.heap[k]?)
    (hKt : ∀ x {A B C : World}, Kp x A B → Kp x B C → Kp x A C) (hKb : ∀ x W o o', W.heap[w.heap.size + 1]? = some o → Kp x W (W.putObj (w.heap.size + 1) o')) (hps : ∀ x, (encs x).size = ps.size)
    (I : List α → World → Prop) (Ix : Code → List α → World → Prop) (hI : ∀ pre A B, I pre A → C A B → I pre B) (hIx : ∀ c pre A B, Ix c pre A → C A B → Ix c pre B) (hIo : OwnFrom w.heap.size I) (hIxo : ∀ c, OwnFrom w.heap.size (Ix c)) (h0 : I [] w)
    (Ax : α → Act → World → Prop) (hAx : ∀ x a', OwnFrom w.heap.size (fun (_ : Unit) W => Ax x a' W))
    (hassign : ∀ (l : Nat) (pre : List α) (x : α) (W : World) (K : Act → World → Prop), I pre W → Rd x W → Nx pre x → (∀ a' W', KeepsFrom w.heap.size W W' → Kp x W W' → I pre W' → Ax x a' W' → K a' W') →
      assign.wpIn (F.inRound l) (n - 1 - 1) P (Exit.then K (fun _ _ _ => False)) { tmps := (ps.zip (encs x)).foldl (fun t (p, v) => t.setIfInBounds p v) a.tmps, defers := [] } W)
    (hbody : ∀ (l : Nat) (pre : List α) (x : α) (a' : Act) (W : World), w.heap.size ≤ l → (∃ r, W.heap[l]? = some (.loop r)) → I pre W → Ax x a' W → Nx pre x → body.wpIn (F.inRound l) (n - 1 - 1) P (postT w.heap.size (Kp x) I Ix (pre ++ [x]) W) a' W)
    (hdone : ∀ (D : Nat) (xs : List α) (W : World), w.heap.size ≤ D → D < w.heap.size + 2 → S xs → I xs W → W.heap[D]? = some (.deferred (some [])) → Q .normal { a with defers := { target := .collected D, args := #[] } :: a.defers } W)
    (hstop : ∀ (D : Nat) (c : Code) (pre : List α) (W : World), w.heap.size ≤ D → D < w.heap.size + 2 → Sp pre → Ix c pre W → W.heap[D]? = some (.deferred (some [])) → c.wpIn F n P Q { a with defers := { target := .collected D, args := #[] } :: a.defers } W) :
    (Code.rangeFunc g ps assign body).wpIn F n P Q a w := by
  refine wpIn_rangeFunc (fun fn hfn => ?_)
  rw [hro]
  obtain ⟨mk, hmk⟩ : ∃ mk : LoopState → Option Code → Loop, mk = fun st pe => { state := st, pending := pe, fn, tmps := a.tmps, params := ps, assign, body, defers := w.heap.size } := ⟨_, rfl⟩
  have he := run_enterLoop_outer (P := P) (w := w) fn a.tmps ps assign body
  obtain ⟨X, hX⟩ : ∃ X, X = (w.alloc (.deferred (some []))).alloc (.loop (mk .ready none)) := ⟨_, rfl⟩
  have hX' := hX
  rw [hmk] at hX'
  rw [← hX'] at he
  have bX : Below w.heap.size w X := by rw [hX]; exact ((Below.refl _ w).alloc (Nat.le_refl _) _).alloc (by simp) _
  have sX : X.heap.size = w.heap.size + 2 := by rw [hX]; simp
  have lX : X.heap[w.heap.size + 1]? = some (.loop (mk .ready none)) := by rw [hX]; have := World.alloc_heap_new (w.alloc (.deferred (some []))) (.loop (mk .ready none)); rwa [World.size_alloc] at this
  have dX : X.heap[w.heap.size]? = some (.deferred (some [])) := by rw [hX]; exact (Below.heap_alloc _ _ _ (by simp)).trans (World.alloc_heap_new w _)
  have iX : I [] X := by rw [hX]; exact hIo.alloc _ (hIo.alloc _ h0)
  refine ⟨w.heap.size + 1, _, X, { target := .fn (.func gf) lb, args := #[.func (.yield (w.heap.size + 1)) #[] #[]] }, X, gf, #[.func (.yield (w.heap.size + 1)) #[] #[]] ++ lb, X, he, ?_, ?_, ?_, fun _ => h1, ?_⟩
  · simp only [resolve, hg]
    simp [go_sem]
  · intro f' hf'
    simp [Target.leads] at hf'
    exact hf' ▸ hFg
  · simp [invoke, go_sem, eg]
  · have key := hseq X bX sX (w.heap.size + 1)
      (fun pre W => I pre W ∧ W.heap[w.heap.size + 1]? = some (.loop (mk .ready none)) ∧ W.heap[w.heap.size]? = some (.deferred (some [])))
      (fun pre W => ∃ c, Ix c pre W ∧ W.heap[w.heap.size + 1]? = some (.loop (mk .done (some c))) ∧ W.heap[w.heap.size]? = some (.deferred (some [])))
      (fun pre A B h hc => ⟨hI pre A B h.1 hc, (hC A B hc _ (by omega) (by omega) (Array.getElem?_eq_some_iff.1 h.2.1).1).trans h.2.1, (hC A B hc _ (Nat.le_refl _) (by omega) (Array.getElem?_eq_some_iff.1 h.2.2).1).trans h.2.2⟩)
      (fun pre A B h hc => by
        obtain ⟨c, hi, hl, hd⟩ := h
        exact ⟨c, hIx c pre A B hi hc, (hC A B hc _ (by omega) (by omega) (Array.getElem?_eq_some_iff.1 hl).1).trans hl, (hC A B hc _ (Nat.le_refl _) (by omega) (Array.getElem?_eq_some_iff.1 hd).1).trans hd⟩)
      (fun pre x A h hr hn => rounds_T hmk hfn hps (B := w.heap.size) (Nat.le_succ _) hKt hKb I Ix hIo hIxo (fun W => W.heap[w.heap.size]? = some (.deferred (some []))) (fun A A' hk hz => hk.same _ _ (Nat.le_refl _) hz rfl) (fun A o hz => (World.putObj_heap_other (by omega)).trans hz) Ax hAx
        (fun pre x W K => hassign _ pre x W K) (fun pre x a' W => hbody _ pre x a' W (Nat.le_succ _)) pre x A h.1 h.2.1 h.2.2 hr hn)
      ⟨iX, lX, dX⟩
    refine key.mono ?_
    have ends : ∀ (pe : Option Code) (st : LoopState) (W : World), st ≠ .busy → W.heap[w.heap.size + 1]? = some (.loop (mk st pe)) → ∃ o, (Instr.endLoop (w.heap.size + 1)).run P W = .ok pe (W.putObj (w.heap.size + 1) o) := fun pe st W hst hl => by
      have := run_endLoop (P := P) hl (by rw [hmk]; exact hst)
      rw [hmk] at this
      exact ⟨_, this⟩
    rintro e W2 ⟨⟨v, rfl⟩, (⟨xs, hS, hi, hl, hd⟩ | ⟨pre, hSp, c, hi, hl, hd⟩)⟩
    · obtain ⟨o, ho⟩ := ends none .ready W2 (by simp) hl
      exact ⟨none, _, ho, hdone _ xs _ (Nat.le_refl _) (by omega) hS (hIo.putObj _ hi (Nat.le_succ _) hl rfl) ((World.putObj_heap_other (by omega)).trans hd)⟩
    · obtain ⟨o, ho⟩ := ends (some c) .done W2 (by simp) hl
      exact ⟨some c, _, ho, hstop _ c pre _ (Nat.le_refl _) (by omega) hSp ((hIxo c).putObj _ hi (Nat.le_succ _) hl rfl) ((World.putObj_heap_other (by omega)).trans hd)⟩
/-- such a loop within a round of the loop l₀ -/
theorem wpT_N {l₀ : Nat} {r₀ : Loop} (hro : F.round = some l₀) (hl₀ : w.heap[l₀]? = some (.loop r₀)) (h1 : 1 ≤ n) (hg : a.eval g = .func (.func gf) #[] lb) (hFg : F.fn gf) (eg : ∀ args w, (callFunc gf args).run P w = .ok (.enter gf args) w)
    (hseq : ∀ W1, Below w.heap.size w W1 → W1.heap.size = w.heap.size + 1 → SeqT F (n - 1) P gf lb encs Rd C Kp S Sp Nx W1) (hC : ∀ A B, C A B → w.heap.size < A.heap.size → B.heap[w.heap.size]? = A.heap[w.heap.size]?)
    (hKt : ∀ x {A B C : World}, Kp x A B → Kp x B C → Kp x A C) (hKb : ∀ x W o o', W.heap[w.heap.size]? = some o → Kp x W (W.putObj w.heap.size o')) (hps : ∀ x, (encs x).size = ps.size)
    (I : List α → World → Prop) (Ix : Code → List α → World → Prop) (hI : ∀ pre A B, I pre A → C A B → I pre B) (hIx : ∀ c pre A B, Ix c pre A → C A B → Ix c pre B) (hIo : OwnFrom w.heap.size I) (hIxo : ∀ c, OwnFrom w.heap.size (Ix c)) (h0 : I [] w)
    (Ax : α → Act → World → Prop) (hAx : ∀ x a', OwnFrom w.heap.size (fun (_ : Unit) W => Ax x a' W))
    (hassign : ∀ (l : Nat) (pre : List α) (x : α) (W : World) (K : Act → World → Prop), I pre W → Rd x W → Nx pre x → (∀ a' W', KeepsFrom w.heap.size W W' → Kp x W W' → I pre W' → Ax x a' W' → K a' W') →
      assign.wpIn (F.inRound l) (n - 1 - 1) P (Exit.then K (fun _ _ _ => False)) { tmps := (ps.zip (encs x)).foldl (fun t (p, v) => t.setIfInBounds p v) a.tmps, defers := [] } W)
    (hbody : ∀ (l : Nat) (pre : List α) (x : α) (a' : Act) (W : World), w.heap.size ≤ l → (∃ r, W.heap[l]? = some (.loop r)) → I pre W → Ax x a' W → Nx pre x → body.wpIn (F.inRound l) (n - 1 - 1) P (postT w.heap.size (Kp x) I Ix (pre ++ [x]) W) a' W)
    (hdone : ∀ (xs : List α) (W : World), S xs → I xs W → Q .normal a W)
    (hstop : ∀ (c : Code) (pre : List α) (W : World), Sp pre → Ix c pre W → c.wpIn F n P Q a W) :
    (Code.rangeFunc g ps assign body).wpIn F n P Q a w := by
  refine wpIn_rangeFunc (fun fn hfn => ?_)
  rw [hro]
  obtain ⟨mk, hmk⟩ : ∃ mk : LoopState → Option Code → Loop, mk = fun st pe => { state := st, pending := pe, fn, tmps := a.tmps, params := ps, assign, body, defers := r₀.defers } := ⟨_, rfl⟩
  have he := run_enterLoop_inner (P := P) (w := w) hl₀ fn a.tmps ps assign body
  obtain ⟨X, hX⟩ : ∃ X, X = w.alloc (.loop (mk .ready none)) := ⟨_, rfl⟩
  have hX' := hX
  rw [hmk] at hX'
  rw [← hX'] at he
  have bX : Below w.heap.size w X := by rw [hX]; exact (Below.refl _ w).alloc (Nat.le_refl _) _
  have sX : X.heap.size = w.heap.size + 1 := by rw [hX]; simp
  have lX : X.heap[w.heap.size]? = some (.loop (mk .ready none)) := by rw [hX]; exact World.alloc_heap_new w _
  have iX : I [] X := by rw [hX]; exact hIo.alloc _ h0
  refine ⟨w.heap.size, [], X, { target := .fn (.func gf) lb, args := #[.func (.yield w.heap.size) #[] #[]] }, X, gf, #[.func (.yield w.heap.size) #[] #[]] ++ lb, X, he, ?_, ?_, ?_, fun _ => h1, ?_⟩
  · simp only [resolve, hg]
    simp [go_sem]
  · intro f' hf'
    simp [Target.leads] at hf'
    exact hf' ▸ hFg
  · simp [invoke, go_sem, eg]
  · have key := hseq X bX sX w.heap.size
      (fun pre W => I pre W ∧ W.heap[w.heap.size]? = some (.loop (mk .ready none)) ∧ True)
      (fun pre W => ∃ c, Ix c pre W ∧ W.heap[w.heap.size]? = some (.loop (mk .done (some c))) ∧ True)
      (fun pre A B h hc => ⟨hI pre A B h.1 hc, (hC A B hc (Array.getElem?_eq_some_iff.1 h.2.1).1).trans h.2.1, trivial⟩)
      (fun pre A B h hc => by
        obtain ⟨c, hi, hl, -⟩ := h
        exact ⟨c, hIx c pre A B hi hc, (hC A B hc (Array.getElem?_eq_some_iff.1 hl).1).trans hl, trivial⟩)
      (fun pre x A h hr hn => rounds_T hmk hfn hps (B := w.heap.size) (Nat.le_refl _) hKt hKb I Ix hIo hIxo (fun _ => True) (fun _ _ _ _ => trivial) (fun _ _ _ => trivial) Ax hAx
        (fun pre x W K => hassign _ pre x W K) (fun pre x a' W => hbody _ pre x a' W (Nat.le_refl _)) pre x A h.1 h.2.1 trivial hr hn)
      ⟨iX, lX, trivial⟩
    refine key.mono ?_
    have ends : ∀ (pe : Option Code) (st : LoopState) (W : World), st ≠ .busy → W.heap[w.heap.size]? = some (.loop (mk st pe)) → ∃ o, (Instr.endLoop w.heap.size).run P W = .ok pe (W.putObj w.heap.size o) := fun pe st W hst hl => by
      have := run_endLoop (P := P) hl (by rw [hmk]; exact hst)
      rw [hmk] at this
      exact ⟨_, this⟩
    rintro e W2 ⟨⟨v, rfl⟩, (⟨xs, hS, hi, hl, -⟩ | ⟨pre, hSp, c, hi, hl, -⟩)⟩
    · obtain ⟨o, ho⟩ := ends none .ready W2 (by simp) hl
      exact ⟨none, _, ho, hdone xs _ hS (hIo.putObj _ hi (Nat.le_refl _) hl rfl)⟩
    · obtain ⟨o, ho⟩ := ends (some c) .done W2 (by simp) hl
      exact ⟨some c, _, ho, hstop c pre _ hSp ((hIxo c).putObj _ hi (Nat.le_refl _) hl rfl)⟩
end laws
end Go.Proofs.Ythpcpminikmcbaa.wk
namespace Go.Proofs.Ythpcpminikmcbaa.vl
open Go.ChangeShapes Go.WideShapes Go.ChangeAt Go.RowKit
set_option linter.unusedVariables false
mutual
/-- an api.Value -/
inductive Vl where
  | mk (kd : Int) (b : Bool) (n : Int) (f : Nat) (tx ty : ByteArray) (its : Vls) (fls : Fls)
/-- a list of values -/
inductive Vls where
  | nil
  | cons (v : Vl) (r : Vls)
/-- a list of members -/
inductive Fls where
  | nil
  | cons (nm : ByteArray) (v : Vl) (r : Fls)
end
def Row8 (w : World) (b off : Nat) (cs : List Value) : Prop := ∀ i u, cs[i]? = some u → w.cell? ⟨b, off + i, none⟩ = some u
mutual
/-- these eight cells are the value v -/
def VlC (w : World) : Vl → List Value → Prop
  | .mk kd b n f tx ty its fls, cs => ∃ (ai : Option Addr) (ni ci : Nat) (af : Option Addr) (nf cf : Nat), cs = [.int .i64 kd, .bool b, .int .i64 n, .float .f64 f, .string tx, .string ty, .slice ai ni ci, .slice af nf cf] ∧
      VlsAt w its ai ni ∧ FlsAt w fls af nf ∧ ni ≤ ci ∧ nf ≤ cf ∧ (ai = none → ci = 0) ∧ (af = none → cf = 0) ∧ (Lit.int .i64 kd).wf = true ∧ (Lit.int .i64 n).wf = true ∧ tx.size ≤ maxLen ∧ ty.size ≤ maxLen ∧ ci ≤ maxLen ∧ cf ≤ maxLen
def VlsAt (w : World) : Vls → Option Addr → Nat → Prop
  | .nil, _, n => n = 0
  | .cons v r, a, n => ∃ (b off m : Nat) (cs : List Value), a = some ⟨b, off, none⟩ ∧ n = m + 1 ∧ Row8 w b off cs ∧ VlC w v cs ∧ VlsAt w r (some ⟨b, off + 8, none⟩) m
def FlsAt (w : World) : Fls → Option Addr → Nat → Prop
  | .nil, _, n => n = 0
  | .cons nm v r, a, n => ∃ (b off m : Nat) (cs : List Value), a = some ⟨b, off, none⟩ ∧ n = m + 1 ∧ w.cell? ⟨b, off, none⟩ = some (.string nm) ∧ nm.size ≤ maxLen ∧ Row8 w b (off + 1) cs ∧ VlC w v cs ∧ FlsAt w r (some ⟨b, off + 9, none⟩) m
end
theorem Row8.below {w w' : World} {b off : Nat} {cs : List Value} (h : Row8 w b off cs) (hb : Below w.heap.size w w') : Row8 w' b off cs := by
  intro i u hu
  have h1 := h i u hu
  exact (hb.cell (World.block_lt_of_cell? w _ h1)).trans h1
mutual
theorem VlC.below {w w' : World} (hb : Below w.heap.size w w') : ∀ (v : Vl) (cs : List Value), VlC w v cs → VlC w' v cs
  | .mk kd b n f tx ty its fls, cs, h => by
    unfold VlC at h ⊢
    obtain ⟨ai, ni, ci, af, nf, cf, rfl, h1, h2, r⟩ := h
    exact ⟨ai, ni, ci, af, nf, cf, rfl, VlsAt.below hb its ai ni h1, FlsAt.below hb fls af nf h2, r⟩
theorem VlsAt.below {w w' : World} (hb : Below w.heap.size w w') : ∀ (l : Vls) (a : Option Addr) (n : Nat), VlsAt w l a n → VlsAt w' l a n
  | .nil, a, n, h => by unfold VlsAt at h ⊢; exact h
  | .cons v r, a, n, h => by
    unfold VlsAt at h ⊢
    obtain ⟨b, off, m, cs, rfl, rfl, h1, h2, h3⟩ := h
    exact ⟨b, off, m, cs, rfl, rfl, h1.below hb, VlC.below hb v cs h2, VlsAt.below hb r _ m h3⟩
theorem FlsAt.below {w w' : World} (hb : Below w.heap.size w w') : ∀ (l : Fls) (a : Option Addr) (n : Nat), FlsAt w l a n → FlsAt w' l a n
  | .nil, a, n, h => by unfold FlsAt at h ⊢; exact h
  | .cons nm v r, a, n, h => by
    unfold FlsAt at h ⊢
    obtain ⟨b, off, m, cs, rfl, rfl, h0, hz, h1, h2, h3⟩ := h
    exact ⟨b, off, m, cs, rfl, rfl, (hb.cell (World.block_lt_of_cell? w _ h0)).trans h0, hz, h1.below hb, VlC.below hb v cs h2, FlsAt.below hb r _ m h3⟩
end
theorem vls_of (w : World) (b : Nat) : ∀ (n off : Nat), (∀ i, i < n → ∃ cs v, Row8 w b (off + i * 8) cs ∧ VlC w v cs) → ∃ l, VlsAt w l (some ⟨b, off, none⟩) n
  | 0, off, _ => ⟨.nil, by unfold VlsAt; rfl⟩
  | n + 1, off, h => by
    obtain ⟨cs, v, h1, h2⟩ := h 0 (by omega)
    obtain ⟨l, hl⟩ := vls_of w b n (off + 8) (fun i hi => by
      obtain ⟨cs, v, h1, h2⟩ := h (i + 1) (by omega)
      exact ⟨cs, v, by rw [show off + 8 + i * 8 = off + (i + 1) * 8 by omega]; exact h1, h2⟩)
    refine ⟨.cons v l, ?_⟩
    unfold VlsAt
    exact ⟨b, off, n, cs, rfl, rfl, by simpa using h1, h2, hl⟩
theorem fls_of (w : World) (b : Nat) : ∀ (n off : Nat), (∀ i, i < n → ∃ nm cs v, w.cell? ⟨b, off + i * 9, none⟩ = some (.string nm) ∧ nm.size ≤ maxLen ∧ Row8 w b (off + i * 9 + 1) cs ∧ VlC w v cs) → ∃ l, FlsAt w l (some ⟨b, off, none⟩) n
  | 0, off, _ => ⟨.nil, by unfold FlsAt; rfl⟩
  | n + 1, off, h => by
    obtain ⟨nm, cs, v, h0, hz, h1, h2⟩ := h 0 (by omega)
    obtain ⟨l, hl⟩ := fls_of w b n (off + 9) (fun i hi => by
      obtain ⟨nm, cs, v, h0, hz, h1, h2⟩ := h (i + 1) (by omega)
      exact ⟨nm, cs, v, by rw [show off + 9 + i * 9 = off + (i + 1) * 9 by omega]; exact h0, hz, by rw [show off + 9 + i * 9 = off + (i + 1) * 9 by omega]; exact h1, h2⟩)
    refine ⟨.cons nm v l, ?_⟩
    unfold FlsAt
    exact ⟨b, off, n, cs, rfl, rfl, by simpa using h0, hz, by simpa using h1, h2, hl⟩
end Go.Proofs.Ythpcpminikmcbaa.vl
namespace Go.Proofs.Ythpcpminikmcbaa.vl
open Go.ChangeShapes Go.WideShapes Go.ChangeAt Go.RowKit
set_option linter.unusedVariables false
section
variable {H : Type} {enc : TypeId × Value → H} {w : World} {base : Nat} {held : Bool}
theorem trod_float {P : Program} {spare : Nat → Bool} {fuel : Nat} {t : TypeId} {cs : List Value} {x : DataW H × List MemPlace} {k : FloatKind} (ht : P.underlying t = some (.float k)) (h : DataW.trod enc P w base spare held fuel t cs = some x) : ∃ n, cs = [.float k n] ∧ x = (.lit (.float k n), []) ∧ (Lit.float k n).wf = true := by
  cases fuel with
  | zero => simp [DataW.trod] at h
  | succ n =>
    unfold DataW.trod at h
    rw [ht] at h
    split at h <;> simp_all
theorem struct8 {P : Program} {spare : Nat → Bool} {t : TypeId} {f0 f1 f2 f3 f4 f5 f6 f7 : Field} {fuel : Nat} {cs : List Value} {x : DataW H × List MemPlace} (ht : P.underlying t = some (.struct #[f0, f1, f2, f3, f4, f5, f6, f7])) (h : DataW.trod enc P w base spare held fuel t cs = some x) :
    ∃ x0 x1 x2 x3 x4 x5 x6 x7 n, fuel = n + 1 ∧ cs.length = P.cellsOf t ∧
      DataW.trod enc P w base spare held n f0.type ((cs.drop f0.offset).take (P.cellsOf f0.type)) = some x0 ∧
      DataW.trod enc P w base spare held n f1.type ((cs.drop f1.offset).take (P.cellsOf f1.type)) = some x1 ∧
      DataW.trod enc P w base spare held n f2.type ((cs.drop f2.offset).take (P.cellsOf f2.type)) = some x2 ∧
      DataW.trod enc P w base spare held n f3.type ((cs.drop f3.offset).take (P.cellsOf f3.type)) = some x3 ∧
      DataW.trod enc P w base spare held n f4.type ((cs.drop f4.offset).take (P.cellsOf f4.type)) = some x4 ∧
      DataW.trod enc P w base spare held n f5.type ((cs.drop f5.offset).take (P.cellsOf f5.type)) = some x5 ∧
      DataW.trod enc P w base spare held n f6.type ((cs.drop f6.offset).take (P.cellsOf f6.type)) = some x6 ∧
      DataW.trod enc P w base spare held n f7.type ((cs.drop f7.offset).take (P.cellsOf f7.type)) = some x7 := by
  obtain ⟨xs, n, hfu, _, hl, hlen, hf⟩ := DataW.trod_struct ht h
  match xs, hlen with
  | [x0, x1, x2, x3, x4, x5, x6, x7], _ => exact ⟨x0, x1, x2, x3, x4, x5, x6, x7, n, hfu, hl, by simpa using hf 0 f0 rfl, by simpa using hf 1 f1 rfl, by simpa using hf 2 f2 rfl, by simpa using hf 3 f3 rfl, by simpa using hf 4 f4 rfl, by simpa using hf 5 f5 rfl, by simpa using hf 6 f6 rfl, by simpa using hf 7 f7 rfl⟩
theorem struct2 {P : Program} {spare : Nat → Bool} {t : TypeId} {f0 f1 : Field} {fuel : Nat} {cs : List Value} {x : DataW H × List MemPlace} (ht : P.underlying t = some (.struct #[f0, f1])) (h : DataW.trod enc P w base spare held fuel t cs = some x) :
    ∃ x0 x1 n, fuel = n + 1 ∧ cs.length = P.cellsOf t ∧
      DataW.trod enc P w base spare held n f0.type ((cs.drop f0.offset).take (P.cellsOf f0.type)) = some x0 ∧
      DataW.trod enc P w base spare held n f1.type ((cs.drop f1.offset).take (P.cellsOf f1.type)) = some x1 := by
  obtain ⟨xs, n, hfu, _, hl, hlen, hf⟩ := DataW.trod_struct ht h
  match xs, hlen with
  | [x0, x1], _ => exact ⟨x0, x1, n, hfu, hl, by simpa using hf 0 f0 rfl, by simpa using hf 1 f1 rfl⟩
theorem list_eight {α : Type} {l : List α} (h : l.length = 8) : ∃ a b c d e f g i, l = [a, b, c, d, e, f, g, i] := by
  match l, h with
  | [a, b, c, d, e, f, g, i], _ => exact ⟨a, b, c, d, e, f, g, i, rfl⟩
theorem list_nine {α : Type} {l : List α} (h : l.length = 9) : ∃ a r, l = a :: r ∧ r.length = 8 := by
  match l, h with
  | a :: r, h => exact ⟨a, r, rfl, by simpa using h⟩
theorem cellsV : Try.prog.cellsOf 27 = 8 := by kernel_rfl
theorem cellsM : Try.prog.cellsOf 69 = 9 := by kernel_rfl
theorem cK : Try.prog.cellsOf 22 = 1 := by kernel_rfl
theorem cB : Try.prog.cellsOf 4 = 1 := by kernel_rfl
theorem cI : Try.prog.cellsOf 2 = 1 := by kernel_rfl
theorem cF : Try.prog.cellsOf 23 = 1 := by kernel_rfl
theorem cS : Try.prog.cellsOf 9 = 1 := by kernel_rfl
theorem cIt : Try.prog.cellsOf 24 = 1 := by kernel_rfl
theorem cFl : Try.prog.cellsOf 25 = 1 := by kernel_rfl
theorem row_of {a : Addr} {n : Nat} {cs : List Value} (h : w.cells? base a n = some cs) (hs : a.spot = none) : cs.length = n ∧ Row8 w a.block a.off cs := by
  obtain ⟨_, hl, hc⟩ := World.cells?_some h
  refine ⟨hl, fun i u hu => ?_⟩
  have hi : i < n := by rw [← hl]; exact (List.getElem?_eq_some_iff.1 hu).1
  have := (hc i hi).trans hu
  obtain ⟨b, off, spot⟩ := a
  simp only at hs
  subst hs
  rw [Addr.add_lit] at this
  exact this
theorem spot_of {a : Addr} {n : Nat} {cs : List Value} (h : w.cells? base a n = some cs) (hn : 0 < n) : a.spot = none := by
  obtain ⟨_, hl, hc⟩ := World.cells?_some h
  have h0 := hc 0 hn
  obtain ⟨b, off, spot⟩ := a
  have : w.cell? (⟨b, off, spot⟩ : Addr) = some (cs[0]'(by omega)) := by
    have e : cs[0]? = some (cs[0]'(by omega)) := by simp
    rw [e] at h0
    simpa [Addr.add] using h0
  simpa using World.cell?_spot this
theorem val_of : ∀ (fuel : Nat) (cs : List Value) (x : DataW H × List MemPlace), DataW.trod enc Try.prog w base (fun _ => true) held fuel 27 cs = some x → ∃ v, VlC w v cs := by
  intro fuel
  induction fuel using Nat.strongRecOn with
  | _ fuel ih =>
    intro cs x h
    obtain ⟨x0, x1, x2, x3, x4, x5, x6, x7, n, hfu, hl, f0, f1, f2, f3, f4, f5, f6, f7⟩ := struct8 Try.underlying27 h
    rw [cellsV] at hl
    obtain ⟨c0, c1, c2, c3, c4, c5, c6, c7, rfl⟩ := list_eight hl
    simp only [cK, cB, cI, cF, cS, cIt, cFl, List.drop_zero, List.drop_succ_cons, List.take_succ_cons, List.take_zero] at f0 f1 f2 f3 f4 f5 f6 f7
    obtain ⟨kd, e0, _, w0⟩ := DataW.trod_int Try.underlying22 f0
    obtain ⟨b, e1, _⟩ := DataW.trod_bool Try.underlying4 f1
    obtain ⟨m, e2, _, w2⟩ := DataW.trod_int Try.underlying2 f2
    obtain ⟨fl, e3, _, w3⟩ := trod_float Try.underlying23 f3
    obtain ⟨tx, e4, _, w4⟩ := DataW.trod_string Try.underlying9 f4
    obtain ⟨ty, e5, _, w5⟩ := DataW.trod_string Try.underlying9 f5
    simp only [List.cons.injEq, and_true] at e0 e1 e2 e3 e4 e5
    subst e0 e1 e2 e3 e4 e5
    have hI : ∃ (ai : Option Addr) (ni ci : Nat) (l : Vls), c6 = .slice ai ni ci ∧ VlsAt w l ai ni ∧ ni ≤ ci ∧ (ai = none → ci = 0) ∧ ci ≤ maxLen := by
      rcases DataW.trod_slice Try.underlying24 f6 with ⟨hc, _⟩ | ⟨a, len, cap, elems, rest, k, hk, hc, _, _, hlc, hcm, hel, hcell, _, _⟩
      · simp at hc
        exact ⟨none, 0, 0, .nil, hc, by unfold VlsAt; rfl, Nat.le_refl _, fun _ => rfl, Nat.zero_le _⟩
      · simp at hc
        have key : ∀ i, i < len → ∃ cs v, w.cells? base (a.add (i * 8)) 8 = some cs ∧ VlC w v cs := by
          intro i hi
          have h1 := hcell i hi
          rw [cellsV, List.getElem?_eq_getElem (show i < elems.length by omega), Option.bind_eq_some_iff] at h1
          obtain ⟨cs, h2, h3⟩ := h1
          obtain ⟨v, hv⟩ := ih k (by omega) cs _ h3
          exact ⟨cs, v, h2, hv⟩
        by_cases h0 : len = 0
        · subst h0
          exact ⟨some a, 0, cap, .nil, hc, by unfold VlsAt; rfl, by omega, fun e => (by cases e), hcm⟩
        · have hsp : a.spot = none := by
            obtain ⟨cs, v, h1, _⟩ := key 0 (by omega)
            have := spot_of h1 (by omega)
            simpa [Addr.add] using this
          obtain ⟨bb, off, spot⟩ := a
          simp only at hsp
          subst hsp
          obtain ⟨l, hl⟩ := vls_of w bb len off (fun i hi => by
            obtain ⟨cs, v, h1, h2⟩ := key i hi
            rw [Addr.add_lit] at h1
            exact ⟨cs, v, (row_of h1 rfl).2, h2⟩)
          exact ⟨some ⟨bb, off, none⟩, len, cap, l, hc, hl, hlc, fun e => (by cases e), hcm⟩
    have hM : ∃ (ai : Option Addr) (ni ci : Nat) (l : Fls), c7 = .slice ai ni ci ∧ FlsAt w l ai ni ∧ ni ≤ ci ∧ (ai = none → ci = 0) ∧ ci ≤ maxLen := by
      rcases DataW.trod_slice Try.underlying25 f7 with ⟨hc, _⟩ | ⟨a, len, cap, elems, rest, k, hk, hc, _, _, hlc, hcm, hel, hcell, _, _⟩
      · simp at hc
        exact ⟨none, 0, 0, .nil, hc, by unfold FlsAt; rfl, Nat.le_refl _, fun _ => rfl, Nat.zero_le _⟩
      · simp at hc
        have key : ∀ i, i < len → ∃ nm cs v, w.cells? base (a.add (i * 9)) 9 = some (.string nm :: cs) ∧ nm.size ≤ maxLen ∧ VlC w v cs := by
          intro i hi
          have h1 := hcell i hi
          rw [cellsM, List.getElem?_eq_getElem (show i < elems.length by omega), Option.bind_eq_some_iff] at h1
          obtain ⟨cs, h2, h3⟩ := h1
          obtain ⟨y0, y1, q, hq, hl9, g0, g1⟩ := struct2 Try.underlying69 h3
          rw [cellsM] at hl9
          obtain ⟨c, r, rfl, hr⟩ := list_nine hl9
          simp only [cS, cellsV, List.drop_zero, List.drop_succ_cons, List.take_succ_cons, List.take_zero] at g0 g1
          rw [List.take_of_length_le (by omega)] at g1
          obtain ⟨nm, e, _, hz⟩ := DataW.trod_string Try.underlying9 g0
          simp only [List.cons.injEq, and_true] at e
          subst e
          obtain ⟨v, hv⟩ := ih q (by omega) r _ g1
          exact ⟨nm, r, v, h2, hz, hv⟩
        by_cases h0 : len = 0
        · subst h0
          exact ⟨some a, 0, cap, .nil, hc, by unfold FlsAt; rfl, by omega, fun e => (by cases e), hcm⟩
        · have hsp : a.spot = none := by
            obtain ⟨nm, cs, v, h1, _⟩ := key 0 (by omega)
            have := spot_of h1 (by omega)
            simpa [Addr.add] using this
          obtain ⟨bb, off, spot⟩ := a
          simp only at hsp
          subst hsp
          obtain ⟨l, hl⟩ := fls_of w bb len off (fun i hi => by
            obtain ⟨nm, cs, v, h1, hz, h2⟩ := key i hi
            rw [Addr.add_lit] at h1
            have hrow : Row8 w bb (off + i * 9) (.string nm :: cs) := (row_of h1 rfl).2
            refine ⟨nm, cs, v, by simpa using hrow 0 (.string nm) rfl, hz, fun j u hu => ?_, h2⟩
            have := hrow (j + 1) u (by simpa using hu)
            rw [show off + i * 9 + 1 + j = off + i * 9 + (j + 1) by omega]
            exact this)
          exact ⟨some ⟨bb, off, none⟩, len, cap, l, hc, hl, hlc, fun e => (by cases e), hcm⟩
    obtain ⟨ai, ni, ci, its, rfl, hI1, hI2, hI3, hI4⟩ := hI
    obtain ⟨af, nf, cf, fls, rfl, hM1, hM2, hM3, hM4⟩ := hM
    refine ⟨.mk kd b m fl tx ty its fls, ?_⟩
    unfold VlC
    exact ⟨ai, ni, ci, af, nf, cf, rfl, hI1, hM1, hI2, hM2, hI3, hM3, w0, w2, w4, w5, hI4, hM4⟩
end
end Go.Proofs.Ythpcpminikmcbaa.vl
namespace Go.Proofs.Ythpcpminikmcbaa.vl
open Go.ChangeShapes Go.WideShapes Go.ChangeAt Go.RowKit
set_option linter.unusedVariables false
def Vls.list : Vls → List Vl
  | .nil => []
  | .cons v r => v :: r.list
def Fls.list : Fls → List (ByteArray × Vl)
  | .nil => []
  | .cons nm v r => (nm, v) :: r.list
theorem VlsAt.len {w : World} : ∀ (l : Vls) (a : Option Addr) (n : Nat), VlsAt w l a n → l.list.length = n
  | .nil, a, n, h => by unfold VlsAt at h; rw [h]; rfl
  | .cons v r, a, n, h => by
    unfold VlsAt at h
    obtain ⟨b, off, m, cs, _, rfl, _, _, h3⟩ := h
    have := VlsAt.len r _ m h3
    simp [Vls.list, this]
theorem FlsAt.len {w : World} : ∀ (l : Fls) (a : Option Addr) (n : Nat), FlsAt w l a n → l.list.length = n
  | .nil, a, n, h => by unfold FlsAt at h; rw [h]; rfl
  | .cons nm v r, a, n, h => by
    unfold FlsAt at h
    obtain ⟨b, off, m, cs, _, rfl, _, _, _, _, h3⟩ := h
    have := FlsAt.len r _ m h3
    simp [Fls.list, this]
/-- the i-th value of a list lies in the i-th eight cells -/
theorem VlsAt.get {w : World} : ∀ (l : Vls) (a : Option Addr) (n : Nat), VlsAt w l a n → ∀ i, i < n → ∃ (b off : Nat) (v : Vl) (cs : List Value), a = some ⟨b, off, none⟩ ∧ l.list[i]? = some v ∧ Row8 w b (off + i * 8) cs ∧ VlC w v cs
  | .nil, a, n, h, i, hi => by unfold VlsAt at h; omega
  | .cons v r, a, n, h, i, hi => by
    unfold VlsAt at h
    obtain ⟨b, off, m, cs, rfl, rfl, h1, h2, h3⟩ := h
    match i with
    | 0 => exact ⟨b, off, v, cs, rfl, rfl, by simpa using h1, h2⟩
    | i + 1 =>
      obtain ⟨b', off', v', cs', e, g, r1, r2⟩ := VlsAt.get r _ m h3 i (by omega)
      simp only [Option.some.injEq, Addr.mk.injEq, and_true] at e
      obtain ⟨rfl, rfl⟩ := e
      exact ⟨b, off, v', cs', rfl, by simpa [Vls.list] using g, by rw [show off + (i + 1) * 8 = off + 8 + i * 8 by omega]; exact r1, r2⟩
/-- the i-th member: its name, then its value's eight cells -/
theorem FlsAt.get {w : World} : ∀ (l : Fls) (a : Option Addr) (n : Nat), FlsAt w l a n → ∀ i, i < n → ∃ (b off : Nat) (nm : ByteArray) (v : Vl) (cs : List Value), a = some ⟨b, off, none⟩ ∧ l.list[i]? = some (nm, v) ∧ w.cell? ⟨b, off + i * 9, none⟩ = some (.string nm) ∧ nm.size ≤ maxLen ∧ Row8 w b (off + i * 9 + 1) cs ∧ VlC w v cs
  | .nil, a, n, h, i, hi => by unfold FlsAt at h; omega
  | .cons nm v r, a, n, h, i, hi => by
    unfold FlsAt at h
    obtain ⟨b, off, m, cs, rfl, rfl, h0, hz, h1, h2, h3⟩ := h
    match i with
    | 0 => exact ⟨b, off, nm, v, cs, rfl, rfl, by simpa using h0, hz, by simpa using h1, h2⟩
    | i + 1 =>
      obtain ⟨b', off', nm', v', cs', e, g, r0, rz, r1, r2⟩ := FlsAt.get r _ m h3 i (by omega)
      simp only [Option.some.injEq, Addr.mk.injEq, and_true] at e
      obtain ⟨rfl, rfl⟩ := e
      exact ⟨b, off, nm', v', cs', rfl, by simpa [Fls.list] using g, by rw [show off + (i + 1) * 9 = off + 9 + i * 9 by omega]; exact r0, rz, by rw [show off + (i + 1) * 9 + 1 = off + 9 + i * 9 + 1 by omega]; exact r1, r2⟩
/-- a value handed over whole: its eight cells in one row -/
theorem VlC.cells {w : World} {v : Vl} {cs : List Value} (h : VlC w v cs) : cs.length = 8 := by
  cases v
  unfold VlC at h
  obtain ⟨_, _, _, _, _, _, rfl, _⟩ := h
  rfl
/-- eight cells of a row, one by one -/
theorem Row8.eight {w : World} {b off : Nat} {c0 c1 c2 c3 c4 c5 c6 c7 : Value} (h : Row8 w b off [c0, c1, c2, c3, c4, c5, c6, c7]) :
    w.cell? ⟨b, off, none⟩ = some c0 ∧ w.cell? ⟨b, off + 1, none⟩ = some c1 ∧ w.cell? ⟨b, off + 2, none⟩ = some c2 ∧ w.cell? ⟨b, off + 3, none⟩ = some c3 ∧ w.cell? ⟨b, off + 4, none⟩ = some c4 ∧ w.cell? ⟨b, off + 5, none⟩ = some c5 ∧ w.cell? ⟨b, off + 6, none⟩ = some c6 ∧ w.cell? ⟨b, off + 7, none⟩ = some c7 :=
  ⟨h 0 c0 rfl, h 1 c1 rfl, h 2 c2 rfl, h 3 c3 rfl, h 4 c4 rfl, h 5 c5 rfl, h 6 c6 rfl, h 7 c7 rfl⟩
end Go.Proofs.Ythpcpminikmcbaa.vl
namespace Go.Proofs.Ythpcpminikmcbaa.vl
open Go.ChangeShapes Go.WideShapes Go.ChangeAt Go.RowKit
set_option linter.unusedVariables false
mutual
/-- what holds of a value when it holds of its items and its members' values holds of every value -/
theorem Vl.all {P : Vl → Prop} (step : ∀ kd b n f tx ty its fls, (∀ v ∈ Vls.list its, P v) → (∀ q ∈ Fls.list fls, P q.2) → P (.mk kd b n f tx ty its fls)) : ∀ v, P v
  | .mk kd b n f tx ty its fls => step kd b n f tx ty its fls (Vls.all step its) (Fls.all step fls)
theorem Vls.all {P : Vl → Prop} (step : ∀ kd b n f tx ty its fls, (∀ v ∈ Vls.list its, P v) → (∀ q ∈ Fls.list fls, P q.2) → P (.mk kd b n f tx ty its fls)) : ∀ l : Vls, ∀ v ∈ l.list, P v
  | .nil, v, h => by simp [Vls.list] at h
  | .cons u r, v, h => by
    simp only [Vls.list, List.mem_cons] at h
    rcases h with h | h
    · rw [h]; exact Vl.all step u
    · exact Vls.all step r v h
theorem Fls.all {P : Vl → Prop} (step : ∀ kd b n f tx ty its fls, (∀ v ∈ Vls.list its, P v) → (∀ q ∈ Fls.list fls, P q.2) → P (.mk kd b n f tx ty its fls)) : ∀ l : Fls, ∀ q ∈ l.list, P q.2
  | .nil, q, h => by simp [Fls.list] at h
  | .cons nm u r, q, h => by
    simp only [Fls.list, List.mem_cons] at h
    rcases h with h | h
    · rw [h]; exact Vl.all step u
    · exact Fls.all step r q h
end
end Go.Proofs.Ythpcpminikmcbaa.vl
namespace Go.Proofs.Ythpcpminikmcbaa.vl
open Go.ChangeShapes Go.WideShapes Go.ChangeAt Go.RowKit
set_option linter.unusedVariables false
/-- two worlds that agree on these blocks -/
def Agree (F : List Nat) (w w' : World) : Prop := ∀ b ∈ F, ∀ o, w'.cell? ⟨b, o, none⟩ = w.cell? ⟨b, o, none⟩
theorem Agree.left {F G : List Nat} {w w' : World} (h : Agree (F ++ G) w w') : Agree F w w' := fun b hb => h b (List.mem_append_left _ hb)
theorem Agree.right {F G : List Nat} {w w' : World} (h : Agree (F ++ G) w w') : Agree G w w' := fun b hb => h b (List.mem_append_right _ hb)
theorem Agree.tail {p : Nat} {G : List Nat} {w w' : World} (h : Agree (p :: G) w w') : Agree G w w' := fun b hb => h b (List.mem_cons_of_mem _ hb)
theorem Agree.of_below {F : List Nat} {w w' : World} (h : Below w.heap.size w w') (hF : ∀ b ∈ F, b < w.heap.size) : Agree F w w' := fun b hb o => h.cell (p := ⟨b, o, none⟩) (hF b hb)
theorem Agree.trans {F : List Nat} {w w' w'' : World} (h : Agree F w w') (h' : Agree F w' w'') : Agree F w w'' := fun b hb o => (h' b hb o).trans (h b hb o)
mutual
/-- these eight cells are the value v, all its lists in blocks of their own, F -/
def OwC (w : World) : Vl → List Value → List Nat → Prop
  | .mk kd b n f tx ty its fls, cs, F => ∃ (ai : Option Addr) (ni ci : Nat) (af : Option Addr) (nf cf : Nat) (Fi Ff : List Nat), cs = [.int .i64 kd, .bool b, .int .i64 n, .float .f64 f, .string tx, .string ty, .slice ai ni ci, .slice af nf cf] ∧
      ((ai = none ∧ its = .nil ∧ ni = 0 ∧ Fi = []) ∨ ∃ p G, ai = some ⟨p, 0, none⟩ ∧ Fi = p :: G ∧ OwsIn w its p 0 ni G) ∧
      ((af = none ∧ fls = .nil ∧ nf = 0 ∧ Ff = []) ∨ ∃ p G, af = some ⟨p, 0, none⟩ ∧ Ff = p :: G ∧ OwfIn w fls p 0 nf G) ∧
      ni ≤ ci ∧ nf ≤ cf ∧ (ai = none → ci = 0) ∧ (af = none → cf = 0) ∧ (Lit.int .i64 kd).wf = true ∧ (Lit.int .i64 n).wf = true ∧ tx.size ≤ maxLen ∧ ty.size ≤ maxLen ∧ ci ≤ maxLen ∧ cf ≤ maxLen ∧ F = Fi ++ Ff
def OwsIn (w : World) : Vls → Nat → Nat → Nat → List Nat → Prop
  | .nil, p, off, n, G => n = 0 ∧ G = []
  | .cons v r, p, off, n, G => ∃ (m : Nat) (cs : List Value) (G1 G2 : List Nat), n = m + 1 ∧ Row8 w p off cs ∧ OwC w v cs G1 ∧ OwsIn w r p (off + 8) m G2 ∧ G = G1 ++ G2
def OwfIn (w : World) : Fls → Nat → Nat → Nat → List Nat → Prop
  | .nil, p, off, n, G => n = 0 ∧ G = []
  | .cons nm v r, p, off, n, G => ∃ (m : Nat) (cs : List Value) (G1 G2 : List Nat), n = m + 1 ∧ w.cell? ⟨p, off, none⟩ = some (.string nm) ∧ nm.size ≤ maxLen ∧ Row8 w p (off + 1) cs ∧ OwC w v cs G1 ∧ OwfIn w r p (off + 9) m G2 ∧ G = G1 ++ G2
end
theorem Row8.agree {w w' : World} {F : List Nat} {b off : Nat} {cs : List Value} (h : Row8 w b off cs) (hb : b ∈ F) (ha : Agree F w w') : Row8 w' b off cs := fun i u hu => (ha b hb _).trans (h i u hu)
mutual
theorem OwC.agree {w w' : World} : ∀ (v : Vl) (cs : List Value) (F : List Nat), Agree F w w' → OwC w v cs F → OwC w' v cs F
  | .mk kd b n f tx ty its fls, cs, F, ha, h => by
    unfold OwC at h ⊢
    obtain ⟨ai, ni, ci, af, nf, cf, Fi, Ff, rfl, h1, h2, r1, r2, r3, r4, r5, r6, r7, r8, r9, r10, rfl⟩ := h
    refine ⟨ai, ni, ci, af, nf, cf, Fi, Ff, rfl, ?_, ?_, r1, r2, r3, r4, r5, r6, r7, r8, r9, r10, rfl⟩
    · rcases h1 with h1 | ⟨p, G, e1, rfl, h1⟩
      · exact .inl h1
      · exact .inr ⟨p, G, e1, rfl, OwsIn.agree its p 0 ni G (ha.left) h1⟩
    · rcases h2 with h2 | ⟨p, G, e1, rfl, h2⟩
      · exact .inl h2
      · exact .inr ⟨p, G, e1, rfl, OwfIn.agree fls p 0 nf G (ha.right) h2⟩
theorem OwsIn.agree {w w' : World} : ∀ (l : Vls) (p off n : Nat) (G : List Nat), Agree (p :: G) w w' → OwsIn w l p off n G → OwsIn w' l p off n G
  | .nil, p, off, n, G, ha, h => by unfold OwsIn at h ⊢; exact h
  | .cons v r, p, off, n, G, ha, h => by
    unfold OwsIn at h ⊢
    obtain ⟨m, cs, G1, G2, rfl, h1, h2, h3, rfl⟩ := h
    exact ⟨m, cs, G1, G2, rfl, h1.agree (List.mem_cons_self ..) ha, OwC.agree v cs G1 ha.tail.left h2, OwsIn.agree r p _ m G2 (fun b hb => ha b (by simp at hb ⊢; rcases hb with hb | hb <;> simp [hb])) h3, rfl⟩
theorem OwfIn.agree {w w' : World} : ∀ (l : Fls) (p off n : Nat) (G : List Nat), Agree (p :: G) w w' → OwfIn w l p off n G → OwfIn w' l p off n G
  | .nil, p, off, n, G, ha, h => by unfold OwfIn at h ⊢; exact h
  | .cons nm v r, p, off, n, G, ha, h => by
    unfold OwfIn at h ⊢
    obtain ⟨m, cs, G1, G2, rfl, h0, hz, h1, h2, h3, rfl⟩ := h
    exact ⟨m, cs, G1, G2, rfl, (ha p (List.mem_cons_self ..) _).trans h0, hz, h1.agree (List.mem_cons_self ..) ha, OwC.agree v cs G1 ha.tail.left h2, OwfIn.agree r p _ m G2 (fun b hb => ha b (by simp at hb ⊢; rcases hb with hb | hb <;> simp [hb])) h3, rfl⟩
end
mutual
/-- what is owned can be read -/
theorem OwC.read {w : World} : ∀ (v : Vl) (cs : List Value) (F : List Nat), OwC w v cs F → VlC w v cs
  | .mk kd b n f tx ty its fls, cs, F, h => by
    unfold OwC at h
    unfold VlC
    obtain ⟨ai, ni, ci, af, nf, cf, Fi, Ff, rfl, h1, h2, r1, r2, r3, r4, r5, r6, r7, r8, r9, r10, rfl⟩ := h
    refine ⟨ai, ni, ci, af, nf, cf, rfl, ?_, ?_, r1, r2, r3, r4, r5, r6, r7, r8, r9, r10⟩
    · rcases h1 with ⟨rfl, rfl, rfl, -⟩ | ⟨p, G, rfl, rfl, h1⟩
      · unfold VlsAt; rfl
      · exact OwsIn.read its p 0 ni G h1
    · rcases h2 with ⟨rfl, rfl, rfl, -⟩ | ⟨p, G, rfl, rfl, h2⟩
      · unfold FlsAt; rfl
      · exact OwfIn.read fls p 0 nf G h2
theorem OwsIn.read {w : World} : ∀ (l : Vls) (p off n : Nat) (G : List Nat), OwsIn w l p off n G → VlsAt w l (some ⟨p, off, none⟩) n
  | .nil, p, off, n, G, h => by unfold OwsIn at h; unfold VlsAt; exact h.1
  | .cons v r, p, off, n, G, h => by
    unfold OwsIn at h
    unfold VlsAt
    obtain ⟨m, cs, G1, G2, rfl, h1, h2, h3, rfl⟩ := h
    exact ⟨p, off, m, cs, rfl, rfl, h1, OwC.read v cs G1 h2, OwsIn.read r p _ m G2 h3⟩
theorem OwfIn.read {w : World} : ∀ (l : Fls) (p off n : Nat) (G : List Nat), OwfIn w l p off n G → FlsAt w l (some ⟨p, off, none⟩) n
  | .nil, p, off, n, G, h => by unfold OwfIn at h; unfold FlsAt; exact h.1
  | .cons nm v r, p, off, n, G, h => by
    unfold OwfIn at h
    unfold FlsAt
    obtain ⟨m, cs, G1, G2, rfl, h0, hz, h1, h2, h3, rfl⟩ := h
    exact ⟨p, off, m, cs, rfl, rfl, h0, hz, h1, OwC.read v cs G1 h2, OwfIn.read r p _ m G2 h3⟩
end
end Go.Proofs.Ythpcpminikmcbaa.vl
namespace Go.Proofs.Ythpcpminikmcbaa.vl
open Go.ChangeShapes Go.WideShapes Go.ChangeAt Go.RowKit
set_option linter.unusedVariables false
def Vls.of : List Vl → Vls
  | [] => .nil
  | v :: r => .cons v (Vls.of r)
def Fls.of : List (ByteArray × Vl) → Fls
  | [] => .nil
  | q :: r => .cons q.1 q.2 (Fls.of r)
theorem Vls.of_list : ∀ l : Vls, Vls.of l.list = l
  | .nil => rfl
  | .cons v r => by simp only [Vls.list, Vls.of]; rw [Vls.of_list r]
theorem Fls.of_list : ∀ l : Fls, Fls.of l.list = l
  | .nil => rfl
  | .cons nm v r => by simp only [Fls.list, Fls.of]; rw [Fls.of_list r]
theorem Vls.list_of : ∀ l : List Vl, (Vls.of l).list = l
  | [] => rfl
  | v :: r => by simp only [Vls.list, Vls.of]; rw [Vls.list_of r]
theorem Fls.list_of : ∀ l : List (ByteArray × Vl), (Fls.of l).list = l
  | [] => rfl
  | q :: r => by simp only [Fls.list, Fls.of]; rw [Fls.list_of r]
/-- a list that grows by one value -/
theorem OwsIn.snoc {w : World} {v : Vl} {cs : List Value} {G' : List Nat} : ∀ (l : List Vl) (p off n : Nat) (G : List Nat), OwsIn w (Vls.of l) p off n G → Row8 w p (off + n * 8) cs → OwC w v cs G' → OwsIn w (Vls.of (l ++ [v])) p off (n + 1) (G ++ G')
  | [], p, off, n, G, h, hr, hv => by
    simp only [Vls.of] at h
    unfold OwsIn at h
    obtain ⟨rfl, rfl⟩ := h
    simp only [List.nil_append, Vls.of]
    unfold OwsIn
    exact ⟨0, cs, G', [], rfl, by simpa using hr, hv, by unfold OwsIn; exact ⟨rfl, rfl⟩, by simp⟩
  | u :: r, p, off, n, G, h, hr, hv => by
    simp only [Vls.of] at h
    unfold OwsIn at h
    obtain ⟨m, ds, G1, G2, rfl, h1, h2, h3, rfl⟩ := h
    simp only [List.cons_append, Vls.of]
    unfold OwsIn
    exact ⟨m + 1, ds, G1, G2 ++ G', rfl, h1, h2, OwsIn.snoc r p (off + 8) m G2 h3 (by rw [show off + 8 + m * 8 = off + (m + 1) * 8 by omega]; exact hr) hv, by simp⟩
theorem OwfIn.snoc {w : World} {nm : ByteArray} {v : Vl} {cs : List Value} {G' : List Nat} : ∀ (l : List (ByteArray × Vl)) (p off n : Nat) (G : List Nat), OwfIn w (Fls.of l) p off n G → w.cell? ⟨p, off + n * 9, none⟩ = some (.string nm) → nm.size ≤ maxLen → Row8 w p (off + n * 9 + 1) cs → OwC w v cs G' → OwfIn w (Fls.of (l ++ [(nm, v)])) p off (n + 1) (G ++ G')
  | [], p, off, n, G, h, h0, hz, hr, hv => by
    simp only [Fls.of] at h
    unfold OwfIn at h
    obtain ⟨rfl, rfl⟩ := h
    simp only [List.nil_append, Fls.of]
    unfold OwfIn
    exact ⟨0, cs, G', [], rfl, by simpa using h0, hz, by simpa using hr, hv, by unfold OwfIn; exact ⟨rfl, rfl⟩, by simp⟩
  | u :: r, p, off, n, G, h, h0, hz, hr, hv => by
    simp only [Fls.of] at h
    unfold OwfIn at h
    obtain ⟨m, ds, G1, G2, rfl, g0, gz, h1, h2, h3, rfl⟩ := h
    simp only [List.cons_append, Fls.of]
    unfold OwfIn
    exact ⟨m + 1, ds, G1, G2 ++ G', rfl, g0, gz, h1, h2, OwfIn.snoc r p (off + 9) m G2 h3 (by rw [show off + 9 + m * 9 = off + (m + 1) * 9 by omega]; exact h0) hz (by rw [show off + 9 + m * 9 + 1 = off + (m + 1) * 9 + 1 by omega]; exact hr) hv, by simp⟩
/-- what lies ahead of a place in its block, and all that it holds, stands when only cells from there on are written -/
theorem OwsIn.keep {w w' : World} : ∀ (l : Vls) (p off n : Nat) (G : List Nat), Agree G w w' → (∀ o, o < off + n * 8 → w'.cell? ⟨p, o, none⟩ = w.cell? ⟨p, o, none⟩) → OwsIn w l p off n G → OwsIn w' l p off n G
  | .nil, p, off, n, G, ha, hc, h => by unfold OwsIn at h ⊢; exact h
  | .cons v r, p, off, n, G, ha, hc, h => by
    unfold OwsIn at h ⊢
    obtain ⟨m, cs, G1, G2, rfl, h1, h2, h3, rfl⟩ := h
    have h8 := (OwC.read v cs G1 h2).cells
    exact ⟨m, cs, G1, G2, rfl, fun i u hu => (hc (off + i) (by have := (List.getElem?_eq_some_iff.1 hu).1; omega)).trans (h1 i u hu), OwC.agree v cs G1 ha.left h2, OwsIn.keep r p _ m G2 ha.right (fun o ho => hc o (by omega)) h3, rfl⟩
theorem OwfIn.keep {w w' : World} : ∀ (l : Fls) (p off n : Nat) (G : List Nat), Agree G w w' → (∀ o, o < off + n * 9 → w'.cell? ⟨p, o, none⟩ = w.cell? ⟨p, o, none⟩) → OwfIn w l p off n G → OwfIn w' l p off n G
  | .nil, p, off, n, G, ha, hc, h => by unfold OwfIn at h ⊢; exact h
  | .cons nm v r, p, off, n, G, ha, hc, h => by
    unfold OwfIn at h ⊢
    obtain ⟨m, cs, G1, G2, rfl, h0, hz, h1, h2, h3, rfl⟩ := h
    have h8 := (OwC.read v cs G1 h2).cells
    exact ⟨m, cs, G1, G2, rfl, (hc off (by omega)).trans h0, hz, fun i u hu => (hc (off + 1 + i) (by have := (List.getElem?_eq_some_iff.1 hu).1; omega)).trans (h1 i u hu), OwC.agree v cs G1 ha.left h2, OwfIn.keep r p _ m G2 ha.right (fun o ho => hc o (by omega)) h3, rfl⟩
theorem there_below {w w' : World} {b o n : Nat} {B : Nat} (h : w.there b o n) (hb : Below B w w') (hl : b < B) : w'.there b o n := fun j hj =>
  ⟨by rw [hb.cell (p := ⟨b, o + j, none⟩) hl]; exact (h j hj).1, by rw [hb.frozen (p := ⟨b, o + j, none⟩) hl]; exact (h j hj).2⟩
theorem there_new {w : World} {Z : Array Value} {t : TypeId} {n : Nat} (h : Z.size = n) : (w.alloc (.cells Z t)).there w.heap.size 0 n := fun j hj =>
  ⟨by rw [World.cell?_alloc_at _ _ _ _ rfl]; simp [h]; omega, by rw [World.frozen?_alloc_at _ _ _ _ rfl]⟩
/-- every cell of a value is one cell -/
theorem VlC.one {w : World} {v : Vl} {cs : List Value} (h : VlC w v cs) : cs.toArray.all (·.oneCell') = true := by
  cases v
  unfold VlC at h
  obtain ⟨_, _, _, _, _, _, rfl, _⟩ := h
  simp [Value.oneCell']
theorem below_setCells {B : Nat} {a : World} (b : Nat) : ∀ (vs : List Value) (o : Nat) (w : World), Below B a w → B ≤ b → Below B a (w.setCells b o vs)
  | [], o, w, h, hp => h
  | v :: r, o, w, h, hp => below_setCells b r (o + 1) _ (h.setCell (p := ⟨b, o, none⟩) hp v) hp
theorem size_setCells (b : Nat) : ∀ (vs : List Value) (o : Nat) (w : World), (w.setCells b o vs).heap.size = w.heap.size
  | [], o, w => rfl
  | v :: r, o, w => by rw [World.setCells, size_setCells b r (o + 1)]; simp
theorem there_sub {w : World} {b o n o' n' : Nat} (h : w.there b o n) (h1 : o ≤ o') (h2 : o' + n' ≤ o + n) : w.there b o' n' := fun j hj => by
  have := h (o' - o + j) (by omega)
  rwa [show o + (o' - o + j) = o' + j by omega] at this
theorem agree_setCells {F : List Nat} {b o : Nat} {vs : List Value} (w : World) (h : b ∉ F) : Agree F w (w.setCells b o vs) := fun b' hb' o' => World.cell?_setCells_out b vs o w ⟨b', o', none⟩ (fun e _ => absurd (e ▸ hb') h)
/-- none of these blocks is frozen -/
def Fz (w : World) (F : List Nat) : Prop := ∀ b ∈ F, ∀ j, w.frozen? ⟨b, j, none⟩ = false
theorem Fz.below {w w' : World} {F : List Nat} (h : Fz w F) (hb : Below w.heap.size w w') (hl : ∀ b ∈ F, b < w.heap.size) : Fz w' F := fun b hm j => (hb.frozen (p := ⟨b, j, none⟩) (hl b hm)).trans (h b hm j)
theorem Fz.setCells {w : World} {F : List Nat} (h : Fz w F) (b o : Nat) (vs : List Value) : Fz (w.setCells b o vs) F := fun c hm j => by rw [World.frozen?_setCells]; exact h c hm j
theorem Fz.app {w : World} {F G : List Nat} (h : Fz w F) (h' : Fz w G) : Fz w (F ++ G) := fun b hb => by
  rcases List.mem_append.1 hb with hb | hb
  · exact h b hb
  · exact h' b hb
theorem Fz.cons {w : World} {p : Nat} {G : List Nat} (h : Fz w [p]) (h' : Fz w G) : Fz w (p :: G) := Fz.app h h'
theorem Fz.new {w : World} {Z : Array Value} {t : TypeId} : Fz (w.alloc (.cells Z t)) [w.heap.size] := fun b hb j => by
  simp only [List.mem_singleton] at hb
  rw [hb, World.frozen?_alloc_at _ _ _ _ rfl]
theorem infoV : (Try.prog.info? 27).map (·.size) = some 8 := by kernel_rfl
theorem infoM : (Try.prog.info? 69).map (·.size) = some 9 := by kernel_rfl
/-- a value that reads so in every world that agrees with this one from that block on -/
def FrC (lo : Nat) (w : World) (v : Vl) (cs : List Value) : Prop := ∀ w' : World, (∀ b j, lo ≤ b → b < w.heap.size → w'.cell? ⟨b, j, none⟩ = w.cell? ⟨b, j, none⟩) → VlC w' v cs
theorem FrC.read {lo : Nat} {w : World} {v : Vl} {cs : List Value} (h : FrC lo w v cs) : VlC w v cs := h w (fun _ _ _ _ => rfl)
theorem FrC.mono {lo lo' : Nat} {w : World} {v : Vl} {cs : List Value} (h : FrC lo w v cs) (hl : lo' ≤ lo) : FrC lo' w v cs := fun w' hw => h w' (fun b j hb => hw b j (Nat.le_trans hl hb))
theorem FrC.of {lo : Nat} {w : World} {v : Vl} {cs : List Value} {F : List Nat} (h : OwC w v cs F) (hF : ∀ b ∈ F, lo ≤ b ∧ b < w.heap.size) : FrC lo w v cs := fun w' hw => OwC.read v cs F (OwC.agree v cs F (fun b hb j => hw b j (hF b hb).1 (hF b hb).2) h)
theorem FrC.below {lo : Nat} {w w' : World} {v : Vl} {cs : List Value} (h : FrC lo w v cs) (hb : Below w.heap.size w w') : FrC lo w' v cs := fun w'' hw => h w'' (fun b j h1 h2 => (hw b j h1 (Nat.lt_of_lt_of_le h2 hb.size)).trans (hb.cell (p := ⟨b, j, none⟩) h2))
theorem FrC.setCells {lo : Nat} {w : World} {v : Vl} {cs : List Value} (h : FrC lo w v cs) (b o : Nat) (vs : List Value) (hb : b < lo) : FrC lo (w.setCells b o vs) v cs := fun w' hw => h w' (fun c j hc hc' => (hw c j hc (by rw [size_setCells]; exact hc')).trans (World.cell?_setCells_out _ _ _ _ _ (fun e _ => by have e : c = b := e; omega)))
end Go.Proofs.Ythpcpminikmcbaa.vl
namespace Go.Proofs.Ythpcpminikmcbaa.vl
open Go.ChangeShapes Go.WideShapes Go.ChangeAt Go.RowKit
set_option linter.unusedVariables false
def Hid (p : Prop) : Prop := p
theorem hide {p : Prop} (h : p) : Hid p := h
theorem unhide {p : Prop} (h : Hid p) : p := h
/-- Copy at a value: a value of its own, alike -/
def CopyAt (v : Vl) : Prop := ∀ (cs : List Value) (w : World), VlC w v cs → Calls Try.prog 35 #[.agg cs.toArray] w fun e w' => ∃ (ds : List Value) (F : List Nat), e = .returned (.agg ds.toArray) ∧ OwC w' v ds F ∧ F.Nodup ∧ (∀ b ∈ F, w.heap.size ≤ b ∧ b < w'.heap.size) ∧ Below w.heap.size w w' ∧ Fz w' F
theorem makeV (n : Nat) (w : World) (hn : n ≤ 1256584717458) : ∃ Z : Array Value, Z.size = n * 8 ∧ (Instr.makeSlice 24 (.int .i64 n) (.int .i64 n)).run Try.prog w = .ok (.slice (some ⟨w.heap.size, 0, none⟩) n n) (w.alloc (.cells Z 27)) := by
  have hin : (Try.prog.info? 27).map (fun i => (i.bytes, i.size, i.zero.isSome)) = some (112, 8, true) := by kernel_rfl
  cases hq : Try.prog.info? 27 with
  | none => simp [hq] at hin
  | some i =>
    simp [hq] at hin
    obtain ⟨h1, h2, h3⟩ := hin
    obtain ⟨z, hz⟩ := Option.isSome_iff_exists.1 h3
    have := run_make (P := Try.prog) w 24 27 i z Try.underlying24 hq hz .i64 .i64 n n (by omega) (Int.le_refl _) (by rw [h1]; omega) (by omega)
    simp only [Int.toNat_natCast, h2] at this
    exact ⟨_, size_madeCells _ _, this⟩
theorem loadV (w : World) (b o : Nat) (cs : List Value) (h : w.rangeAt b o cs) (h8 : cs.length = 8) : (loadCellsFrom ⟨b, o, none⟩ 0 8 #[]).run Try.prog w = .ok cs.toArray w := by
  have := run_loadCells_list (P := Try.prog) w ⟨b, o, none⟩ cs (fun j v hv => by rw [Addr.add_mid]; exact h j v hv)
  rw [h8] at this
  simpa [loadCells] using this
set_option maxHeartbeats 6000000 in
set_option maxRecDepth 6000 in
theorem each_ok (its : Vls) (ih : ∀ v ∈ its.list, CopyAt v) (a : Addr) (n c : Nat) (w : World) (hI : VlsAt w its (some a) n) (hn : n ≤ 1256584717458) : Calls Try.prog 58 #[.slice (some a) n c, .func (.func 35) #[] #[]] w fun e w' => ∃ (p : Nat) (G : List Nat), e = .returned (.slice (some ⟨p, 0, none⟩) n n) ∧ OwsIn w' its p 0 n G ∧ (p :: G).Nodup ∧ (∀ b ∈ p :: G, w.heap.size ≤ b ∧ b < w'.heap.size) ∧ Below w.heap.size w w' ∧ Fz w' (p :: G) := by
  have en : ∀ args w, (callFunc 35 args).run Try.prog w = .ok (.enter 35 args) w := fun _ _ => rfl
  have hnil : ∀ (w : World) (a : Option Addr) (n c n' c' : Nat), (binOp .eql 24 (.slice a n c) (.slice none n' c')).run Try.prog w = .ok (.bool a.isNone) w := fun w a n c n' c' => Lib.run_eql_slice_nil w _ _ a n c n' c' Try.underlying24
  have hlen := VlsAt.len its _ _ hI
  obtain ⟨Z, hZ, hmk⟩ := makeV n w hn
  have hL := hide hlen
  have hZ' := hide hZ
  clear hlen hZ
  go_enter Try.func58, Try.ntmps58
  go_wp2_with fail
  clear hmk
  go_loopw [15] (fun vi wr => ∃ (k : Nat) (G : List Nat), k ≤ n ∧ vi = .int .i64 k ∧ Hid (OwsIn wr (Vls.of (its.list.take k)) w.heap.size 0 k G) ∧ G.Nodup ∧ (∀ b ∈ G, w.heap.size < b ∧ b < wr.heap.size) ∧ Hid (wr.there w.heap.size 0 (n * 8)) ∧ Below w.heap.size w wr ∧ w.heap.size < wr.heap.size ∧ Hid (Fz wr (w.heap.size :: G))) (fun vi _ => n - (intOf vi).toNat)
  case atStart => exact ⟨0, [], Nat.zero_le _, rfl, hide (by simp only [List.take_zero, Vls.of]; unfold OwsIn; exact ⟨rfl, rfl⟩), List.nodup_nil, by simp, hide (there_new (unhide hZ')), (Below.refl _ _).alloc (Nat.le_refl _) _, by simp, hide Fz.new⟩
  case round =>
    obtain ⟨k, G, hk, rfl, hO, hnd, hG, hT, hB, hs, hZ3⟩ := hrel
    by_cases hlt : k < n
    · obtain ⟨b, off, v, cs, hab, hg, hr, hv⟩ := VlsAt.get its _ n hI k hlt
      obtain rfl : a = ⟨b, off, none⟩ := Option.some.inj hab
      clear hab
      have hcop := hide (ih v (List.mem_of_getElem? hg))
      have hr' : wr.rangeAt b (off + k * 8) cs := Row8.below hr hB
      have h8 := hv.cells
      have h1 := hv.one
      have hi8 : (Try.prog.info? 27).map (·.size) = some cs.length := by rw [h8]; exact infoV
      have hi8' : (Try.prog.info? 27).map (·.size) = some cs.toArray.size := by simp [h8, infoV]
      have hz8 : cs.toArray.size = 8 := by simp [h8]
      have ki : (k : Int) < (n : Int) := by omega
      have HH := hide (And.intro hi8 (And.intro hi8' (And.intro hz8 h8)))
      clear hr hi8 hi8' hz8 h8
      go_wp2_with (first
        | refine wpList_load_mid (by rfl) 27 _ (by rfl) b (off + k * 8) (by rfl) cs _ hr' Try.underlying27 (by rfl) (unhide HH).1 ?_
        | refine wpList_store_mid (by rfl) 27 _ _ (by rfl) wr.heap.size 0 cs.toArray (by rfl) (by rfl) (there_new (by rw [(unhide HH).2.2.1]; rfl)) (unhide HH).2.1 h1 ?_
        | refine wpList_load_mid (by rfl) 27 _ (by rfl) wr.heap.size 0 (by rfl) cs _ (World.rangeAt_setCells_same _ _ _ _ (there_new (by show _ = cs.length; rw [(unhide HH).2.2.2]; rfl))) Try.underlying27 (by rfl) (unhide HH).1 ?_)
      obtain ⟨W2, e2⟩ : ∃ W2, W2 = ((wr.alloc (.cells #[Value.int IntKind.i64 0, Value.bool false, Value.int IntKind.i64 0, Value.float FloatKind.f64 0, Value.string { data := #[] }, Value.string { data := #[] }, Value.slice none 0 0, Value.slice none 0 0] 27)).setCells wr.heap.size 0 cs) := ⟨_, rfl⟩
      have b2 : Below wr.heap.size wr W2 := by rw [e2]; exact below_setCells _ _ _ _ ((Below.refl _ _).alloc (Nat.le_refl _) _) (Nat.le_refl _)
      rw [← e2]
      clear e2
      have hv2 : VlC W2 v cs := VlC.below (hB.trans (b2.mono hB.size)) v cs hv
      refine ((unhide hcop) cs W2 hv2).mono ?_
      rintro e w3 ⟨ds, F, rfl, hO3, hnd3, hF3, b3, z3⟩
      have Z3 := hide z3
      clear z3
      have d8 := (OwC.read v ds F hO3).cells
      have d1 := (OwC.read v ds F hO3).one
      have b23 : Below wr.heap.size wr w3 := b2.trans (b3.mono b2.size)
      have hT3 : w3.there w.heap.size (k * 8) ds.toArray.size := there_sub (there_below (unhide hT) b23 hs) (Nat.zero_le _) (by simp [d8]; omega)
      have hi8 : (Try.prog.info? 27).map (·.size) = some ds.toArray.size := by simp [d8, infoV]
      have D8 := hide d8
      have HI := hide hi8
      have HT := hide hT3
      have HO3 := hide hO3
      clear hO3 hT3 hi8 d8 hcop HH hr' hv2
      go_wp2_with (first
        | refine wpList_store_mid (by rfl) 27 _ _ (by rfl) w.heap.size (k * 8) ds.toArray (by rfl) (by rfl) (unhide HT) (unhide HI) d1 ?_)
      have hfresh : ∀ b' ∈ F, wr.heap.size ≤ b' ∧ b' < w3.heap.size := fun b' hb' => ⟨Nat.le_trans b2.size (hF3 b' hb').1, (hF3 b' hb').2⟩
      have hpG : w.heap.size ∉ G := fun h => absurd (hG _ h).1 (Nat.lt_irrefl _)
      have hpF : w.heap.size ∉ F := fun h => absurd (hfresh _ h).1 (by omega)
      have hag : Agree G wr w3 := Agree.of_below b23 (fun b' hb' => (hG b' hb').2)
      have hO4 : OwsIn (w3.setCells w.heap.size (k * 8) ds) (Vls.of (its.list.take k)) w.heap.size 0 k G :=
        OwsIn.keep _ _ _ _ _ (hag.trans (agree_setCells w3 hpG)) (fun o ho => by
          rw [World.cell?_setCells_out _ _ _ _ _ (fun _ _ => .inl (by show o < k * 8; omega))]
          exact b23.cell (p := ⟨w.heap.size, o, none⟩) hs) (unhide hO)
      have hrow : Row8 (w3.setCells w.heap.size (k * 8) ds) w.heap.size (0 + k * 8) ds := by
        rw [Nat.zero_add]
        exact World.rangeAt_setCells_same w3 _ _ ds (by have := unhide HT; simpa using this)
      have hown : OwC (w3.setCells w.heap.size (k * 8) ds) v ds F := OwC.agree v ds F (agree_setCells w3 hpF) (unhide HO3)
      have hsn := OwsIn.snoc (its.list.take k) _ _ _ _ hO4 hrow hown
      rw [show its.list.take k ++ [v] = its.list.take (k + 1) by rw [List.take_add_one, hg]; rfl] at hsn
      refine ⟨⟨k + 1, G ++ F, by omega, by go_num, hide hsn, ?_, ?_, hide (World.there_setCells (there_below (unhide hT) b23 hs) _ _ _), below_setCells _ _ _ _ (hB.trans (b23.mono hB.size)) (Nat.le_refl _), by rw [size_setCells]; exact Nat.lt_of_lt_of_le hs b23.size, hide (Fz.setCells (Fz.app (F := w.heap.size :: G) ((unhide hZ3).below b23 (fun b' hb' => by
        rcases List.mem_cons.1 hb' with h | h
        · rw [h]; exact hs
        · exact (hG b' h).2)) (unhide Z3)) _ _ _)⟩, by simp only [intOf]; omega⟩
      · rw [List.nodup_append]
        exact ⟨hnd, hnd3, fun x hx y hy e => by have h1 := (hG x hx).2; have h2 := (hfresh y hy).1; omega⟩
      · intro b' hb'
        rw [size_setCells]
        rcases List.mem_append.1 hb' with h | h
        · exact ⟨(hG b' h).1, Nat.lt_of_lt_of_le (hG b' h).2 b23.size⟩
        · exact ⟨Nat.lt_of_lt_of_le hs (hfresh b' h).1, (hfresh b' h).2⟩
    · obtain rfl : k = n := by omega
      go_wp2
      go_ret
      refine ⟨_, G, rfl, ?_, List.nodup_cons.2 ⟨fun h => absurd (hG _ h).1 (Nat.lt_irrefl _), hnd⟩, ?_, hB, unhide hZ3⟩
      · have := unhide hO
        rwa [List.take_of_length_le (Nat.le_of_eq (unhide hL)), Vls.of_list] at this
      · intro b' hb'
        rcases List.mem_cons.1 hb' with rfl | h
        · exact ⟨Nat.le_refl _, hs⟩
        · exact ⟨Nat.le_of_lt (hG b' h).1, (hG b' h).2⟩
end Go.Proofs.Ythpcpminikmcbaa.vl
namespace Go.Proofs.Ythpcpminikmcbaa.rgn
set_option linter.unusedVariables false
variable {P : Program} {md : Region.Mode} {ops : Array Oper} {Q : Exit → Act → World → Prop} {S : World → Prop}
/-- a region that draws its order: an operation that only reads, in every world of S alike, is taken first -/
theorem take {i fuel : Nat} {listed : Array Bool} {a : Act} {w : World} (o : Oper) (v : Value) (ho : ops[i]? = some o) (hs : Region.noSelect ops = true) (hf : Region.free md ops listed i = true) (hr : (Region.ready md ops listed).contains i = true)
    (hQ : ∀ c a w, Q (.panic c) (a.put o.dst v) w → Q (.panic c) a w) (hw : Region.wanted o (yielded ops a.tmps) = true) (hS : S w) (hy : ∀ w, S w → (execOp a.eval o).run P w = .ok (.value v) w)
    (h : wpAnyH P md ops Q S fuel (listed.setIfInBounds i true) (a.put o.dst v) w) : wpAnyH P md ops Q S (fuel + 1) listed a w :=
  wpAnyH_take ho hs hf hr hQ (.inl ⟨hw, hy⟩) hS h
/-- the one operation that may come up now -/
theorem one {i fuel : Nat} {listed : Array Bool} {a : Act} {w : World} (o : Oper) (ho : ops[i]? = some o) (hr : Region.ready md ops listed = [i]) (hw : Region.wanted o (yielded ops a.tmps) = true)
    (h : o.wp P a w (fun a' w' => S w' ∧ wpAnyH P md ops Q S fuel (listed.setIfInBounds i true) a' w') Q) : wpAnyH P md ops Q S (fuel + 1) listed a w := by
  refine wpAnyH_all hr (by simp) ?_
  intro j hj
  obtain rfl : j = i := by simpa using hj
  unfold wpOp
  simp only [ho, hw, if_true]
  exact .inl h
/-- the two operations that may come up now -/
theorem two {i j fuel : Nat} {listed : Array Bool} {a : Act} {w : World} (oi oj : Oper) (hi : ops[i]? = some oi) (hj : ops[j]? = some oj) (hr : Region.ready md ops listed = [i, j]) (wi : Region.wanted oi (yielded ops a.tmps) = true) (wj : Region.wanted oj (yielded ops a.tmps) = true)
    (h1 : oi.wp P a w (fun a' w' => S w' ∧ wpAnyH P md ops Q S fuel (listed.setIfInBounds i true) a' w') Q)
    (h2 : oj.wp P a w (fun a' w' => S w' ∧ wpAnyH P md ops Q S fuel (listed.setIfInBounds j true) a' w') Q) : wpAnyH P md ops Q S (fuel + 1) listed a w := by
  refine wpAnyH_all hr (by simp) ?_
  intro k hk
  rcases (by simpa using hk : k = i ∨ k = j) with rfl | rfl
  · unfold wpOp
    simp only [hi, wi, if_true]
    exact .inl h1
  · unfold wpOp
    simp only [hj, wj, if_true]
    exact .inl h2
/-- a result that lies in a row of cells -/
theorem result_row {fn : Func} {p : Tmp} {ty : TypeId} (h : fn.results = #[.cell p ty]) (tmps : Array Value) (w : World) (b o : Nat) (cs : List Value) (d : TypeDesc) (hp : tmps.getD p undef = .pointer (some ⟨b, o, none⟩)) (hc : w.rangeAt b o cs)
    (hu : P.underlying ty = some d) (hd : d.isRow = true) (hi : (P.info? ty).map (·.size) = some cs.length) : (results fn tmps).run P w = .ok (.agg cs.toArray) w := by
  have := run_loadVar_mid (P := P) w b o ty cs d hc hu hd hi
  have hp' : tmps[p]?.getD undef = .pointer (some ⟨b, o, none⟩) := by simpa using hp
  simp [results, h, hp', asAddr, this]
/-- a result in a row of cells, and one beside it -/
theorem result_row_tmp {fn : Func} {p u : Tmp} {ty : TypeId} (h : fn.results = #[.cell p ty, .tmp u]) (tmps : Array Value) (w : World) (b o : Nat) (cs : List Value) (d : TypeDesc) (hp : tmps.getD p undef = .pointer (some ⟨b, o, none⟩)) (hc : w.rangeAt b o cs)
    (hu : P.underlying ty = some d) (hd : d.isRow = true) (hi : (P.info? ty).map (·.size) = some cs.length) : (results fn tmps).run P w = .ok (.tuple #[.agg cs.toArray, tmps.getD u undef]) w := by
  have := run_loadVar_mid (P := P) w b o ty cs d hc hu hd hi
  have hp' : tmps[p]?.getD undef = .pointer (some ⟨b, o, none⟩) := by simpa using hp
  simp [results, h, hp', asAddr, this]
end Go.Proofs.Ythpcpminikmcbaa.rgn
