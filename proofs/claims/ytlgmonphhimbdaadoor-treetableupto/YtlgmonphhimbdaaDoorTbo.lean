import Derived.Test.YtlgmonphhimbdaaDoorTbn
namespace Go.Proofs.YtlgmonphhimbdaaDoor.tab
open Go.ChangeShapes Go.WideShapes Go.ChangeAt Go.RowKit Go.Maps Go.Shelf
set_option linter.unusedVariables false
set_option linter.unusedSimpArgs false
/-- the table and the list are as they were -/
theorem st_same {w : World} {B : Nat} {X : Nat → Prop} {b : Nat} {M : Option Nat} {rs : List Rw} {nx : Nat} {N : Nat → Prop} {u : Value} {ps : List Pr} (h : Tb w B X b M rs nx) (hR : Rel rs ps) (hL : RL w N u ps) (hN : ∀ j, N j → ¬ X j) {w' : World} (hb : Below w.heap.size w w') : StPost B X b M nx ps N w (.returned (.tuple #[u, .bool true])) w' :=
  ⟨u, X, M, rs, nx, ps, rfl, h.below hb, hR, (hL.mono (fun j _ hj => ⟨fun _ => hj, hN j hj⟩)).below hb, by omega, by omega, fun j hj => .inl hj, Kx.of_below hb⟩
theorem st_from {w w1 w' : World} {B : Nat} {X : Nat → Prop} {b : Nat} {M : Option Nat} {nx : Nat} {N N1 : Nat → Prop} {ps : List Pr} {e : Ending} (hb : Below w.heap.size w w1) (hN : ∀ j, N1 j → j < w.heap.size → N j) (h : StPost B X b M nx ps N1 w1 e w') : StPost B X b M nx ps N w e w' := by
  obtain ⟨v, X', M', r, x, p, h1, h2, h3, h4, h5, h6, h7, h8⟩ := h
  have := hb.size
  exact ⟨v, X', M', r, x, p, h1, h2, h3, h4.mono (fun j _ hj => ⟨fun hl => hN j (hj.1 (by omega)) hl, hj.2⟩), h5, h6, fun j hj => (h7 j hj).imp id (fun h => by omega), (Kx.of_below hb).trans h8 (fun j hj => .inl hj)⟩
theorem boolEq (x : Bool) (w : World) : (binOp BinOp.eql 4 (.bool x) (.bool x)).run Tryd.prog w = .ok (.bool true) w := by cases x <;> kernel_rfl
theorem tw_big {B : Nat} {w : World} (h : Tw B w) (hB : B ≤ w.heap.size) : Tw w.heap.size w := fun W hW => h W (hW.mono hB)
set_option maxRecDepth 6000 in
set_option maxHeartbeats 1000000 in
theorem step4 {w : World} {B : Nat} {X : Nat → Prop} {b : Nat} {M : Option Nat} {rs : List Rw} {nx : Nat} {N : Nat → Prop} {u : Value} {ps : List Pr} (K V : Int) (hK : InR K) (h : Tb w B X b M rs nx) (hR : Rel rs ps) (hL : RL w N u ps) (hN : ∀ j, N j → ¬ X j) (hn : ps.length ≤ 1048576) (hx : nx ≤ 1152921504605798400) (hT : Tw B w) (hB : B ≤ w.heap.size) :
    Calls Tryd.prog 7 #[.pointer (some ⟨b, 0, none⟩), u, .agg #[.int .i64 4, .int .i64 K, .int .i64 V]] w (StPost B X b M nx ps N w) := by
  have hL' := hL
  obtain ⟨a, c, eu, h1⟩ := hL'
  obtain ⟨q, hq⟩ : ∃ q, q = ps.length := ⟨_, rfl⟩
  rw [← hq] at eu
  subst eu
  have ST := hide (fun W (hW : Below w.heap.size w W) => st_same h hR hL hN hW)
  have b1 : Below w.heap.size w (w.alloc (.cells #[.int .i64 4, .int .i64 K, .int .i64 V] 31)) := (Below.refl _ _).alloc (Nat.le_refl _) _
  have LN := hide (len_tb (h.below b1))
  have lq := hR.len
  rw [lq, ← hq] at LN
  clear lq
  have hqb : q ≤ 1048576 := by omega
  have B1 := hide b1
  have HQ := hide hq
  have H1 := hide h1
  have HR := hide hR
  have HH := hide h
  have HL := hide hL
  clear h hR h1 hq b1 hT hN hL hn
  go_enter Tryd.func7, Tryd.ntmps7
  go_wp2_with fail
  refine (unhide LN).mono ?_
  rintro e w2 ⟨rfl, hw2⟩
  subst w2
  go_wp2
  go_ret2
  exact unhide ST _ (unhide B1)
set_option maxRecDepth 6000 in
set_option maxHeartbeats 1000000 in
theorem step6 {w : World} {B : Nat} {X : Nat → Prop} {b : Nat} {M : Option Nat} {rs : List Rw} {nx : Nat} {N : Nat → Prop} {u : Value} {ps : List Pr} (K V : Int) (hK : InR K) (h : Tb w B X b M rs nx) (hR : Rel rs ps) (hL : RL w N u ps) (hN : ∀ j, N j → ¬ X j) (hn : ps.length ≤ 1048576) (hx : nx ≤ 1152921504605798400) (hT : Tw B w) (hB : B ≤ w.heap.size) :
    Calls Tryd.prog 7 #[.pointer (some ⟨b, 0, none⟩), u, .agg #[.int .i64 6, .int .i64 K, .int .i64 V]] w (StPost B X b M nx ps N w) := by
  have hL' := hL
  obtain ⟨a, c, eu, h1⟩ := hL'
  obtain ⟨q, hq⟩ : ∃ q, q = ps.length := ⟨_, rfl⟩
  rw [← hq] at eu
  subst eu
  have ST := hide (fun W (hW : Below w.heap.size w W) => st_same h hR hL hN hW)
  have b1 : Below w.heap.size w (w.alloc (.cells #[.int .i64 6, .int .i64 K, .int .i64 V] 31)) := (Below.refl _ _).alloc (Nat.le_refl _) _
  have HO := hide (holds_ok (h.below b1) hR (hL.below b1) hn (tw_big (hT.step (b1.mono hB)) (Nat.le_trans hB b1.size)))
  have hqb : q ≤ 1048576 := by omega
  have B1 := hide b1
  have HQ := hide hq
  have H1 := hide h1
  have HR := hide hR
  have HH := hide h
  have HL := hide hL
  clear h hR h1 hq b1 hT hN hL hn
  go_enter Tryd.func7, Tryd.ntmps7
  go_wp2_with fail
  refine (unhide HO).mono ?_
  rintro e w2 ⟨rfl, b2⟩
  go_wp2
  go_ret2
  exact unhide ST _ ((unhide B1).trans (b2.mono (unhide B1).size))
set_option maxRecDepth 6000 in
set_option maxHeartbeats 1000000 in
theorem step7 {w : World} {B : Nat} {X : Nat → Prop} {b : Nat} {M : Option Nat} {rs : List Rw} {nx : Nat} {N : Nat → Prop} {u : Value} {ps : List Pr} (K V : Int) (hK : InR K) (h : Tb w B X b M rs nx) (hR : Rel rs ps) (hL : RL w N u ps) (hN : ∀ j, N j → ¬ X j) (hn : ps.length ≤ 1048576) (hx : nx ≤ 1152921504605798400) (hT : Tw B w) (hB : B ≤ w.heap.size) :
    Calls Tryd.prog 7 #[.pointer (some ⟨b, 0, none⟩), u, .agg #[.int .i64 7, .int .i64 K, .int .i64 V]] w (StPost B X b M nx ps N w) := by
  have hL' := hL
  obtain ⟨a, c, eu, h1⟩ := hL'
  obtain ⟨q, hq⟩ : ∃ q, q = ps.length := ⟨_, rfl⟩
  rw [← hq] at eu
  subst eu
  have ST := hide (fun W (hW : Below w.heap.size w W) => st_same h hR hL hN hW)
  have b1 : Below w.heap.size w (w.alloc (.cells #[.int .i64 7, .int .i64 K, .int .i64 V] 31)) := (Below.refl _ _).alloc (Nat.le_refl _) _
  have HO := hide (fun W (hW : Below w.heap.size w W) li => ranged_ok li (h.below hW) hR (hL.below hW) hn (tw_big (hT.step (hW.mono hB)) (Nat.le_trans hB hW.size)))
  have hqb : q ≤ 1048576 := by omega
  have B1 := hide b1
  have HQ := hide hq
  have H1 := hide h1
  have HR := hide hR
  have HH := hide h
  have HL := hide hL
  clear h hR h1 hq b1 hT hN hL hn
  go_enter Tryd.func7, Tryd.ntmps7
  go_wp2_with fail
  refine (unhide HO _ (unhide B1) V).mono ?_
  rintro e w2 ⟨rfl, b2⟩
  have b2' := (unhide B1).trans (b2.mono (unhide B1).size)
  go_wp2_with fail
  refine (unhide HO _ b2' (-1)).mono ?_
  rintro e w3 ⟨rfl, b3⟩
  go_wp2
  go_ret2
  exact unhide ST _ (b2'.trans (b3.mono b2'.size))
set_option maxRecDepth 6000 in
set_option maxHeartbeats 1000000 in
theorem step8 {w : World} {B : Nat} {X : Nat → Prop} {b : Nat} {M : Option Nat} {rs : List Rw} {nx : Nat} {N : Nat → Prop} {u : Value} {ps : List Pr} (K V : Int) (hK : InR K) (h : Tb w B X b M rs nx) (hR : Rel rs ps) (hL : RL w N u ps) (hN : ∀ j, N j → ¬ X j) (hn : ps.length ≤ 1048576) (hx : nx ≤ 1152921504605798400) (hT : Tw B w) (hB : B ≤ w.heap.size) :
    Calls Tryd.prog 7 #[.pointer (some ⟨b, 0, none⟩), u, .agg #[.int .i64 8, .int .i64 K, .int .i64 V]] w (StPost B X b M nx ps N w) := by
  have hL' := hL
  obtain ⟨a, c, eu, h1⟩ := hL'
  obtain ⟨q, hq⟩ : ∃ q, q = ps.length := ⟨_, rfl⟩
  rw [← hq] at eu
  subst eu
  have ST := hide (fun W (hW : Below w.heap.size w W) => st_same h hR hL hN hW)
  have b1 : Below w.heap.size w (w.alloc (.cells #[.int .i64 8, .int .i64 K, .int .i64 V] 31)) := (Below.refl _ _).alloc (Nat.le_refl _) _
  have HO := hide (while_ok 8 K V (h.below b1) hR (hL.below b1) hN hn hx (hT.step (b1.mono hB)) (Nat.le_trans hB b1.size))
  have hqb : q ≤ 1048576 := by omega
  have B1 := hide b1
  have HQ := hide hq
  have H1 := hide h1
  have HR := hide hR
  have HH := hide h
  have HL := hide hL
  clear h hR h1 hq b1 hT hN hL hn
  go_enter Tryd.func7, Tryd.ntmps7
  go_wp2_with fail
  refine (unhide HO).mono ?_
  rintro e w2 hst
  have hst' := st_from (unhide B1) (fun j hj _ => hj) hst
  obtain ⟨v', X', M', r, x, p, rfl, hh⟩ := hst
  obtain ⟨av, nv, cv, rfl⟩ := hh.2.2.1.shape
  have HS := hide hst'
  clear hh hst'
  go_wp2
  go_ret2
  exact unhide HS
set_option maxRecDepth 6000 in
set_option maxHeartbeats 1000000 in
theorem step0 {w : World} {B : Nat} {X : Nat → Prop} {b : Nat} {M : Option Nat} {rs : List Rw} {nx : Nat} {N : Nat → Prop} {u : Value} {ps : List Pr} (kd : Int) (K V : Int) (hK : InR K) (h : Tb w B X b M rs nx) (hR : Rel rs ps) (hL : RL w N u ps) (hN : ∀ j, N j → ¬ X j) (hn : ps.length ≤ 1048576) (hx : nx ≤ 1152921504605798400) (hT : Tw B w) (hB : B ≤ w.heap.size) (k1 : ¬ kd = 1) (k2 : ¬ kd = 2) (k3 : ¬ kd = 3) (k4 : ¬ kd = 4) (k5 : ¬ kd = 5) (k6 : ¬ kd = 6) (k7 : ¬ kd = 7) (k8 : ¬ kd = 8) :
    Calls Tryd.prog 7 #[.pointer (some ⟨b, 0, none⟩), u, .agg #[.int .i64 kd, .int .i64 K, .int .i64 V]] w (StPost B X b M nx ps N w) := by
  have hL' := hL
  obtain ⟨a, c, eu, h1⟩ := hL'
  obtain ⟨q, hq⟩ : ∃ q, q = ps.length := ⟨_, rfl⟩
  rw [← hq] at eu
  subst eu
  have ST := hide (fun W (hW : Below w.heap.size w W) => st_same h hR hL hN hW)
  have b1 : Below w.heap.size w (w.alloc (.cells #[.int .i64 kd, .int .i64 K, .int .i64 V] 31)) := (Below.refl _ _).alloc (Nat.le_refl _) _
  have hqb : q ≤ 1048576 := by omega
  have B1 := hide b1
  have HQ := hide hq
  have H1 := hide h1
  have HR := hide hR
  have HH := hide h
  have HL := hide hL
  clear h hR h1 hq b1 hT hN hL hn
  go_enter Tryd.func7, Tryd.ntmps7
  go_wp2
  go_ret2
  exact unhide ST _ (unhide B1)
end Go.Proofs.YtlgmonphhimbdaaDoor.tab
