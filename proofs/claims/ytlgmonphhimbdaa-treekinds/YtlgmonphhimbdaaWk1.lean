import Derived.Test.YtlgmonphhimbdaaRows
import Derived.RangeFuncNested
import Derived.RangeFuncBound
import Derived.RangeFuncCalls
import Derived.RangeFuncLeaves
namespace Go.Proofs.Ytlgmonphhimbdaa.wk
open Go.RowKit
set_option linter.unusedVariables false
variable {F : Fence} {n : Nat} {P : Program}
/-- how a round's body is left: the record was busy; it is ready again, or done with a jump pending -/
def endT (l : Nat) (mk : LoopState → Option Code → Loop) (R : Ending → World → Prop) : Exit → Act → World → Prop
  | .normal, _, W => W.heap[l]? = some (.loop (mk .busy none)) ∧ R (.returned (.bool true)) (W.putObj l (.loop (mk .ready none)))
  | .ret, _, W => W.heap[l]? = some (.loop (mk .busy none)) ∧ R (.returned (.bool false)) (W.putObj l (.loop (mk .done (some .ret))))
  | .exit id, _, W => W.heap[l]? = some (.loop (mk .busy none)) ∧ R (.returned (.bool false)) (W.putObj l (.loop (mk .done (some (.exit id)))))
  | .goto t, _, W => W.heap[l]? = some (.loop (mk .busy none)) ∧ R (.returned (.bool false)) (W.putObj l (.loop (mk .done (some (.goto t)))))
  | .panic _, _, _ => False
  | .outgrown, _, _ => False
/-- one round of a loop whose record lies at l -/
theorem round_at {l m : Nat} {fn : FuncId} {tmps : Array Value} {ps : Array Tmp} {assign body : Code} {D : Nat} {W : World} {args : Array Value} {R : Ending → World → Prop} {mk : LoopState → Option Code → Loop}
    (hmk : mk = fun st pe => { state := st, pending := pe, fn, tmps, params := ps, assign, body, defers := D }) (hfn : F.fn fn) (hps : args.size = ps.size) (hl : W.heap[l]? = some (.loop (mk .ready none)))
    (h : assign.wpIn (F.inRound l) m P (Exit.then (fun a' Wa => Wa.heap[l]? = some (.loop (mk .ready none)) ∧ body.wpIn (F.inRound l) m P (endT l mk R) a' (Wa.putObj l (.loop (mk .busy none)))) (fun _ _ _ => False)) { tmps := (ps.zip args).foldl (fun t (p, v) => t.setIfInBounds p v) tmps, defers := [] } W) :
    YieldAt F m P l args W R := by
  have hy := run_yield (P := P) (args := args) hl (by rw [hmk]; exact hps)
  rw [hmk] at hy
  refine ⟨fn, _, assign, body, hy, roundIn_of_wpIn hfn (wpIn_mono h ?_)⟩
  clear hy h
  intro e a' Wa hp
  cases e with
  | normal =>
    obtain ⟨hla, hb⟩ := hp
    have hbr := run_beginRound (P := P) hla (by rw [hmk])
    have e1 : ({ mk .ready none with state := .busy } : Loop) = mk .busy none := by rw [hmk]
    rw [e1] at hbr
    refine ⟨_, hbr, wpIn_mono hb ?_⟩
    intro e a3 W3 hq
    have fin : ∀ jump : Option Code, W3.heap[l]? = some (.loop (mk .busy none)) → (Instr.endRound l jump).run P W3 = .ok (.bool jump.isNone) (W3.putObj l (.loop (mk (if jump.isNone then .ready else .done) jump))) := fun jump h3 => by
      have := run_endRound (P := P) jump h3
      rw [hmk] at this ⊢
      exact this
    cases e with
    | normal => exact ⟨_, _, fin none hq.1, hq.2⟩
    | ret => exact ⟨_, _, fin (some .ret) hq.1, hq.2⟩
    | exit id => exact ⟨_, _, fin (some (.exit id)) hq.1, hq.2⟩
    | goto t => exact ⟨_, _, fin (some (.goto t)) hq.1, hq.2⟩
    | panic c => exact hq.elim
    | outgrown => exact hq.elim
  | ret => exact hp.elim
  | exit id => exact hp.elim
  | goto t => exact hp.elim
  | panic c => exact hp.elim
  | outgrown => exact hp.elim
/-- an iterator that may write what C says between two rounds: J, Jx abide C; Rd: what a round may read of its element; Kp: what a round must keep -/
def SeqT {α : Type} (F : Fence) (n : Nat) (P : Program) (g : Nat) (lb : Array Value) (encs : α → Array Value) (Rd : α → World → Prop) (C : World → World → Prop) (Kp : α → World → World → Prop) (S Sp : List α → Prop) (Nx : List α → α → Prop) (W : World) : Prop :=
  ∀ (l : Nat) (J Jx : List α → World → Prop), (∀ pre A B, J pre A → C A B → J pre B) → (∀ pre A B, Jx pre A → C A B → Jx pre B) →
    (∀ pre x A, J pre A → Rd x A → Nx pre x → YieldAt F (n - 1) P l (encs x) A fun e A' =>
      (e = .returned (.bool true) ∧ J (pre ++ [x]) A' ∧ Kp x A A') ∨ (e = .returned (.bool false) ∧ Jx (pre ++ [x]) A' ∧ Kp x A A')) →
    J [] W →
    CallsIn F n P g (#[.func (.yield l) #[] #[]] ++ lb) W fun e W' => (∃ v, e = .returned v) ∧ ((∃ xs, S xs ∧ J xs W') ∨ (∃ pre, Sp pre ∧ Jx pre W'))
theorem SeqT.inRound {α : Type} {g : Nat} {lb : Array Value} {encs : α → Array Value} {Rd : α → World → Prop} {C : World → World → Prop} {Kp : α → World → World → Prop} {S Sp : List α → Prop} {Nx : List α → α → Prop} {W : World} (l : Nat) (h : SeqT F n P g lb encs Rd C Kp S Sp Nx W) : SeqT (F.inRound l) n P g lb encs Rd C Kp S Sp Nx W := h
/-- how a round's body may be left -/
def postT {α : Type} (B : Nat) (Kp : World → World → Prop) (I : List α → World → Prop) (Ix : Code → List α → World → Prop) (xs : List α) (W : World) : Exit → Act → World → Prop
  | .normal, _, W' => KeepsFrom B W W' ∧ Kp W W' ∧ I xs W'
  | .ret, _, W' => KeepsFrom B W W' ∧ Kp W W' ∧ Ix .ret xs W'
  | .exit id, _, W' => KeepsFrom B W W' ∧ Kp W W' ∧ Ix (.exit id) xs W'
  | .goto t, _, W' => KeepsFrom B W W' ∧ Kp W W' ∧ Ix (.goto t) xs W'
  | .panic _, _, _ => False
  | .outgrown, _, _ => False
section laws
variable {α : Type} {g : Operand} {ps : Array Tmp} {assign body : Code} {Q : Exit → Act → World → Prop} {a : Act} {w : World} {gf : Nat} {lb : Array Value} {encs : α → Array Value} {Rd : α → World → Prop} {C : World → World → Prop} {Kp : α → World → World → Prop} {S Sp : List α → Prop} {Nx : List α → α → Prop}
/-- the rounds of such a loop: l its record, B what lay ahead -/
theorem rounds_T {fn : FuncId} {m l B D : Nat} {mk : LoopState → Option Code → Loop} (hmk : mk = fun st pe => { state := st, pending := pe, fn, tmps := a.tmps, params := ps, assign, body, defers := D }) (hfn : F.fn fn) (hps : ∀ x, (encs x).size = ps.size) (hBl : B ≤ l)
    (hKt : ∀ x {A B C : World}, Kp x A B → Kp x B C → Kp x A C) (hKb : ∀ x W o o', W.heap[l]? = some o → Kp x W (W.putObj l o')) (I : List α → World → Prop) (Ix : Code → List α → World → Prop) (hIo : OwnFrom B I) (hIxo : ∀ c, OwnFrom B (Ix c))
    (Z : World → Prop) (hZk : ∀ A A', KeepsFrom B A A' → Z A → Z A') (hZp : ∀ A o, Z A → Z (A.putObj l o)) (Ax : α → Act → World → Prop) (hAx : ∀ x a', OwnFrom B (fun (_ : Unit) W => Ax x a' W))
    (hassign : ∀ (pre : List α) (x : α) (W : World) (K : Act → World → Prop), I pre W → Rd x W → Nx pre x → (∀ a' W', KeepsFrom B W W' → Kp x W W' → I pre W' → Ax x a' W' → K a' W') →
      assign.wpIn (F.inRound l) m P (Exit.then K (fun _ _ _ => False)) { tmps := (ps.zip (encs x)).foldl (fun t (p, v) => t.setIfInBounds p v) a.tmps, defers := [] } W)
    (hbody : ∀ (pre : List α) (x : α) (a' : Act) (W : World), (∃ r, W.heap[l]? = some (.loop r)) → I pre W → Ax x a' W → Nx pre x → body.wpIn (F.inRound l) m P (postT B (Kp x) I Ix (pre ++ [x]) W) a' W)
    (pre : List α) (x : α) (A : World) (hi : I pre A) (hl : A.heap[l]? = some (.loop (mk .ready none))) (hz : Z A) (hr : Rd x A) (hn : Nx pre x) :
    YieldAt F m P l (encs x) A fun e A' =>
      (e = .returned (.bool true) ∧ (I (pre ++ [x]) A' ∧ A'.heap[l]? = some (.loop (mk .ready none)) ∧ Z A') ∧ Kp x A A') ∨ (e = .returned (.bool false) ∧ (∃ c, Ix c (pre ++ [x]) A' ∧ A'.heap[l]? = some (.loop (mk .done (some c))) ∧ Z A') ∧ Kp x A A') := by
  refine round_at hmk hfn (hps x) hl (hassign pre x A _ hi hr hn ?_)
  intro a' Wa hk hkp hia hax
  have hla := hk.same l _ hBl hl rfl
  have hlt : l < Wa.heap.size := (Array.getElem?_eq_some_iff.1 hla).1
  refine ⟨hla, wpIn_mono (hbody pre x a' _ ⟨_, World.putObj_heap_same hlt⟩ (hIo.putObj _ hia hBl hla rfl) ((hAx x a').putObj (s := ()) _ hax hBl hla rfl) hn) ?_⟩
  have hz1 : Z (Wa.putObj l (.loop (mk .busy none))) := hZp _ _ (hZk _ _ hk hz)
  have hk1 : Kp x A (Wa.putObj l (.loop (mk .busy none))) := hKt x hkp (hKb x Wa _ _ hla)
  have hb1 : (Wa.putObj l (.loop (mk .busy none))).heap[l]? = some (.loop (mk .busy none)) := World.putObj_heap_same hlt
  clear hk hkp hia hax hla
  intro e a3 W3 hp
  have at3 : KeepsFrom B (Wa.putObj l (.loop (mk .busy none))) W3 → W3.heap[l]? = some (.loop (mk .busy none)) ∧ l < W3.heap.size ∧ Z W3 := fun h =>
    ⟨h.same l _ hBl hb1 rfl, (Array.getElem?_eq_some_iff.1 (h.same l _ hBl hb1 rfl)).1, hZk _ _ h hz1⟩
  cases e with
  | normal =>
    obtain ⟨k3, kp3, i3⟩ := hp
    obtain ⟨h3, l3, z3⟩ := at3 k3
    exact ⟨h3, .inl ⟨rfl, ⟨hIo.putObj _ i3 hBl h3 rfl, World.putObj_heap_same l3, hZp _ _ z3⟩, hKt x (hKt x hk1 kp3) (hKb x W3 _ _ h3)⟩⟩
  | ret =>
    obtain ⟨k3, kp3, i3⟩ := hp
    obtain ⟨h3, l3, z3⟩ := at3 k3
    exact ⟨h3, .inr ⟨rfl, ⟨.ret, (hIxo _).putObj _ i3 hBl h3 rfl, World.putObj_heap_same l3, hZp _ _ z3⟩, hKt x (hKt x hk1 kp3) (hKb x W3 _ _ h3)⟩⟩
  | exit id =>
    obtain ⟨k3, kp3, i3⟩ := hp
    obtain ⟨h3, l3, z3⟩ := at3 k3
    exact ⟨h3, .inr ⟨rfl, ⟨.exit id, (hIxo _).putObj _ i3 hBl h3 rfl, World.putObj_heap_same l3, hZp _ _ z3⟩, hKt x (hKt x hk1 kp3) (hKb x W3 _ _ h3)⟩⟩
  | goto t =>
    obtain ⟨k3, kp3, i3⟩ := hp
    obtain ⟨h3, l3, z3⟩ := at3 k3
    exact ⟨h3, .inr ⟨rfl, ⟨.goto t, (hIxo _).putObj _ i3 hBl h3 rfl, World.putObj_heap_same l3, hZp _ _ z3⟩, hKt x (hKt x hk1 kp3) (hKb x W3 _ _ h3)⟩⟩
  | panic c => exact hp.elim
  | outgrown => exact hp.elim
/-- an outermost loop over such an iterator -/
theorem wpT_H (hro : F.round = none) (h1 : 1 ≤ n) (hg : a.eval g = .func (.func gf) #[] lb) (hFg : F.fn gf) (eg : ∀ args w, (callFunc gf args).run P w = .ok (.enter gf args) w)
    (hseq : ∀ W1, Below w.heap.size w W1 → W1.heap.size = w.heap.size + 2 → SeqT F (n - 1) P gf lb encs Rd C Kp S Sp Nx W1) (hC : ∀ A B, C A B → ∀ k, w.heap.size ≤ k → k < w.heap.size + 2 → k < A.heap.size → B.heap[k]? = A.heap[k]?)
    (hKt : ∀ x {A B C : World}, Kp x A B → Kp x B C → Kp x A C) (hKb : ∀ x W o o', W.heap[w.heap.size + 1]? = some o → Kp x W (W.putObj (w.heap.size + 1) o')) (hps : ∀ x, (encs x).size = ps.size)
    (I : List α → World → Prop) (Ix : Code → List α → World → Prop) (hI : ∀ pre A B, I pre A → C A B → I pre B) (hIx : ∀ c pre A B, Ix c pre A → C A B → Ix c pre B) (hIo : OwnFrom w.heap.size I) (hIxo : ∀ c, OwnFrom w.heap.size (Ix c)) (h0 : I [] w)
    (Ax : α → Act → World → Prop) (hAx : ∀ x a', OwnFrom w.heap.size (fun (_ : Unit) W => Ax x a' W))
    (hassign : ∀ (l : Nat) (pre : List α) (x : α) (W : World) (K : Act → World → Prop), I pre W → Rd x W → Nx pre x → (∀ a' W', KeepsFrom w.heap.size W W' → Kp x W W' → I pre W' → Ax x a' W' → K a' W') →
      assign.wpIn (F.inRound l) (n - 1 - 1) P (Exit.then K (fun _ _ _ => False)) { tmps := (ps.zip (encs x)).foldl (fun t (p, v) => t.setIfInBounds p v) a.tmps, defers := [] } W)
    (hbody : ∀ (l : Nat) (pre : List α) (x : α) (a' : Act) (W : World), w.heap.size ≤ l → (∃ r, W.heap[l]? = some (.loop r)) → I pre W → Ax x a' W → Nx pre x → body.wpIn (F.inRound l) (n - 1 - 1) P (postT w.heap.size (Kp x) I Ix (pre ++ [x]) W) a' W)
    (hdone : ∀ (D : Nat) (xs : List α) (W : World), w.heap.size ≤ D → D < w.heap.size + 2 → S xs → I xs W → W.heap[D]? = some (.deferred (some [])) → Q .normal { a with defers := { target := .collected D, args := #[] } :: a.defers } W)
    (hstop : ∀ (D : Nat) (c : Code) (pre : List α) (W : World), w.heap.size ≤ D → D < w.heap.size + 2 → Sp pre → Ix c pre W → W.heap[D]? = some (.deferred (some [])) → c.wpIn F n P Q { a with defers := { target := .collected D, args := #[] } :: a.defers } W) :
    (Code.rangeFunc g ps assign body).wpIn F n P Q a w := by
  refine wpIn_rangeFunc (fun fn hfn => ?_)
  rw [hro]
  obtain ⟨mk, hmk⟩ : ∃ mk : LoopState → Option Code → Loop, mk = fun st pe => { state := st, pending := pe, fn, tmps := a.tmps, params := ps, assign, body, defers := w.heap.size } := ⟨_, rfl⟩
  have he := run_enterLoop_outer (P := P) (w := w) fn a.tmps ps assign body
  obtain ⟨X, hX⟩ : ∃ X, X = (w.alloc (.deferred (some []))).alloc (.loop (mk .ready none)) := ⟨_, rfl⟩
  have hX' := hX
  rw [hmk] at hX'
  rw [← hX'] at he
  have bX : Below w.heap.size w X := by rw [hX]; exact ((Below.refl _ w).alloc (Nat.le_refl _) _).alloc (by simp) _
  have sX : X.heap.size = w.heap.size + 2 := by rw [hX]; simp
  have lX : X.heap[w.heap.size + 1]? = some (.loop (mk .ready none)) := by rw [hX]; have := World.alloc_heap_new (w.alloc (.deferred (some []))) (.loop (mk .ready none)); rwa [World.size_alloc] at this
  have dX : X.heap[w.heap.size]? = some (.deferred (some [])) := by rw [hX]; exact (Below.heap_alloc _ _ _ (by simp)).trans (World.alloc_heap_new w _)
  have iX : I [] X := by rw [hX]; exact hIo.alloc _ (hIo.alloc _ h0)
  refine ⟨w.heap.size + 1, _, X, { target := .fn (.func gf) lb, args := #[.func (.yield (w.heap.size + 1)) #[] #[]] }, X, gf, #[.func (.yield (w.heap.size + 1)) #[] #[]] ++ lb, X, he, ?_, ?_, ?_, fun _ => h1, ?_⟩
  · simp only [resolve, hg]
    simp [go_sem]
  · intro f' hf'
    simp [Target.leads] at hf'
    exact hf' ▸ hFg
  · simp [invoke, go_sem, eg]
  · have key := hseq X bX sX (w.heap.size + 1)
      (fun pre W => I pre W ∧ W.heap[w.heap.size + 1]? = some (.loop (mk .ready none)) ∧ W.heap[w.heap.size]? = some (.deferred (some [])))
      (fun pre W => ∃ c, Ix c pre W ∧ W.heap[w.heap.size + 1]? = some (.loop (mk .done (some c))) ∧ W.heap[w.heap.size]? = some (.deferred (some [])))
      (fun pre A B h hc => ⟨hI pre A B h.1 hc, (hC A B hc _ (by omega) (by omega) (Array.getElem?_eq_some_iff.1 h.2.1).1).trans h.2.1, (hC A B hc _ (Nat.le_refl _) (by omega) (Array.getElem?_eq_some_iff.1 h.2.2).1).trans h.2.2⟩)
      (fun pre A B h hc => by
        obtain ⟨c, hi, hl, hd⟩ := h
        exact ⟨c, hIx c pre A B hi hc, (hC A B hc _ (by omega) (by omega) (Array.getElem?_eq_some_iff.1 hl).1).trans hl, (hC A B hc _ (Nat.le_refl _) (by omega) (Array.getElem?_eq_some_iff.1 hd).1).trans hd⟩)
      (fun pre x A h hr hn => rounds_T hmk hfn hps (B := w.heap.size) (Nat.le_succ _) hKt hKb I Ix hIo hIxo (fun W => W.heap[w.heap.size]? = some (.deferred (some []))) (fun A A' hk hz => hk.same _ _ (Nat.le_refl _) hz rfl) (fun A o hz => (World.putObj_heap_other (by omega)).trans hz) Ax hAx
        (fun pre x W K => hassign _ pre x W K) (fun pre x a' W => hbody _ pre x a' W (Nat.le_succ _)) pre x A h.1 h.2.1 h.2.2 hr hn)
      ⟨iX, lX, dX⟩
    refine key.mono ?_
    have ends : ∀ (pe : Option Code) (st : LoopState) (W : World), st ≠ .busy → W.heap[w.heap.size + 1]? = some (.loop (mk st pe)) → ∃ o, (Instr.endLoop (w.heap.size + 1)).run P W = .ok pe (W.putObj (w.heap.size + 1) o) := fun pe st W hst hl => by
      have := run_endLoop (P := P) hl (by rw [hmk]; exact hst)
      rw [hmk] at this
      exact ⟨_, this⟩
    rintro e W2 ⟨⟨v, rfl⟩, (⟨xs, hS, hi, hl, hd⟩ | ⟨pre, hSp, c, hi, hl, hd⟩)⟩
    · obtain ⟨o, ho⟩ := ends none .ready W2 (by simp) hl
      exact ⟨none, _, ho, hdone _ xs _ (Nat.le_refl _) (by omega) hS (hIo.putObj _ hi (Nat.le_succ _) hl rfl) ((World.putObj_heap_other (by omega)).trans hd)⟩
    · obtain ⟨o, ho⟩ := ends (some c) .done W2 (by simp) hl
      exact ⟨some c, _, ho, hstop _ c pre _ (Nat.le_refl _) (by omega) hSp ((hIxo c).putObj _ hi (Nat.le_succ _) hl rfl) ((World.putObj_heap_other (by omega)).trans hd)⟩
/-- such a loop within a round of the loop l₀ -/
theorem wpT_N {l₀ : Nat} {r₀ : Loop} (hro : F.round = some l₀) (hl₀ : w.heap[l₀]? = some (.loop r₀)) (h1 : 1 ≤ n) (hg : a.eval g = .func (.func gf) #[] lb) (hFg : F.fn gf) (eg : ∀ args w, (callFunc gf args).run P w = .ok (.enter gf args) w)
    (hseq : ∀ W1, Below w.heap.size w W1 → W1.heap.size = w.heap.size + 1 → SeqT F (n - 1) P gf lb encs Rd C Kp S Sp Nx W1) (hC : ∀ A B, C A B → w.heap.size < A.heap.size → B.heap[w.heap.size]? = A.heap[w.heap.size]?)
    (hKt : ∀ x {A B C : World}, Kp x A B → Kp x B C → Kp x A C) (hKb : ∀ x W o o', W.heap[w.heap.size]? = some o → Kp x W (W.putObj w.heap.size o')) (hps : ∀ x, (encs x).size = ps.size)
    (I : List α → World → Prop) (Ix : Code → List α → World → Prop) (hI : ∀ pre A B, I pre A → C A B → I pre B) (hIx : ∀ c pre A B, Ix c pre A → C A B → Ix c pre B) (hIo : OwnFrom w.heap.size I) (hIxo : ∀ c, OwnFrom w.heap.size (Ix c)) (h0 : I [] w)
    (Ax : α → Act → World → Prop) (hAx : ∀ x a', OwnFrom w.heap.size (fun (_ : Unit) W => Ax x a' W))
    (hassign : ∀ (l : Nat) (pre : List α) (x : α) (W : World) (K : Act → World → Prop), I pre W → Rd x W → Nx pre x → (∀ a' W', KeepsFrom w.heap.size W W' → Kp x W W' → I pre W' → Ax x a' W' → K a' W') →
      assign.wpIn (F.inRound l) (n - 1 - 1) P (Exit.then K (fun _ _ _ => False)) { tmps := (ps.zip (encs x)).foldl (fun t (p, v) => t.setIfInBounds p v) a.tmps, defers := [] } W)
    (hbody : ∀ (l : Nat) (pre : List α) (x : α) (a' : Act) (W : World), w.heap.size ≤ l → (∃ r, W.heap[l]? = some (.loop r)) → I pre W → Ax x a' W → Nx pre x → body.wpIn (F.inRound l) (n - 1 - 1) P (postT w.heap.size (Kp x) I Ix (pre ++ [x]) W) a' W)
    (hdone : ∀ (xs : List α) (W : World), S xs → I xs W → Q .normal a W)
    (hstop : ∀ (c : Code) (pre : List α) (W : World), Sp pre → Ix c pre W → c.wpIn F n P Q a W) :
    (Code.rangeFunc g ps assign body).wpIn F n P Q a w := by
  refine wpIn_rangeFunc (fun fn hfn => ?_)
  rw [hro]
  obtain ⟨mk, hmk⟩ : ∃ mk : LoopState → Option Code → Loop, mk = fun st pe => { state := st, pending := pe, fn, tmps := a.tmps, params := ps, assign, body, defers := r₀.defers } := ⟨_, rfl⟩
  have he := run_enterLoop_inner (P := P) (w := w) hl₀ fn a.tmps ps assign body
  obtain ⟨X, hX⟩ : ∃ X, X = w.alloc (.loop (mk .ready none)) := ⟨_, rfl⟩
  have hX' := hX
  rw [hmk] at hX'
  rw [← hX'] at he
  have bX : Below w.heap.size w X := by rw [hX]; exact (Below.refl _ w).alloc (Nat.le_refl _) _
  have sX : X.heap.size = w.heap.size + 1 := by rw [hX]; simp
  have lX : X.heap[w.heap.size]? = some (.loop (mk .ready none)) := by rw [hX]; exact World.alloc_heap_new w _
  have iX : I [] X := by rw [hX]; exact hIo.alloc _ h0
  refine ⟨w.heap.size, [], X, { target := .fn (.func gf) lb, args := #[.func (.yield w.heap.size) #[] #[]] }, X, gf, #[.func (.yield w.heap.size) #[] #[]] ++ lb, X, he, ?_, ?_, ?_, fun _ => h1, ?_⟩
  · simp only [resolve, hg]
    simp [go_sem]
  · intro f' hf'
    simp [Target.leads] at hf'
    exact hf' ▸ hFg
  · simp [invoke, go_sem, eg]
  · have key := hseq X bX sX w.heap.size
      (fun pre W => I pre W ∧ W.heap[w.heap.size]? = some (.loop (mk .ready none)) ∧ True)
      (fun pre W => ∃ c, Ix c pre W ∧ W.heap[w.heap.size]? = some (.loop (mk .done (some c))) ∧ True)
      (fun pre A B h hc => ⟨hI pre A B h.1 hc, (hC A B hc (Array.getElem?_eq_some_iff.1 h.2.1).1).trans h.2.1, trivial⟩)
      (fun pre A B h hc => by
        obtain ⟨c, hi, hl, -⟩ := h
        exact ⟨c, hIx c pre A B hi hc, (hC A B hc (Array.getElem?_eq_some_iff.1 hl).1).trans hl, trivial⟩)
      (fun pre x A h hr hn => rounds_T hmk hfn hps (B := w.heap.size) (Nat.le_refl _) hKt hKb I Ix hIo hIxo (fun _ => True) (fun _ _ _ _ => trivial) (fun _ _ _ => trivial) Ax hAx
        (fun pre x W K => hassign _ pre x W K) (fun pre x a' W => hbody _ pre x a' W (Nat.le_refl _)) pre x A h.1 h.2.1 trivial hr hn)
      ⟨iX, lX, trivial⟩
    refine key.mono ?_
    have ends : ∀ (pe : Option Code) (st : LoopState) (W : World), st ≠ .busy → W.heap[w.heap.size]? = some (.loop (mk st pe)) → ∃ o, (Instr.endLoop w.heap.size).run P W = .ok pe (W.putObj w.heap.size o) := fun pe st W hst hl => by
      have := run_endLoop (P := P) hl (by rw [hmk]; exact hst)
      rw [hmk] at this
      exact ⟨_, this⟩
    rintro e W2 ⟨⟨v, rfl⟩, (⟨xs, hS, hi, hl, -⟩ | ⟨pre, hSp, c, hi, hl, -⟩)⟩
    · obtain ⟨o, ho⟩ := ends none .ready W2 (by simp) hl
      exact ⟨none, _, ho, hdone xs _ hS (hIo.putObj _ hi (Nat.le_refl _) hl rfl)⟩
    · obtain ⟨o, ho⟩ := ends (some c) .done W2 (by simp) hl
      exact ⟨some c, _, ho, hstop c pre _ hSp ((hIxo c).putObj _ hi (Nat.le_refl _) hl rfl)⟩
end laws
end Go.Proofs.Ytlgmonphhimbdaa.wk
