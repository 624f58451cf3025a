import Derived.Test.YtdmfbahnhkdamaaGreatNes5
namespace Go.Proofs.YtdmfbahnhkdamaaGreat.cu
open Go.ChangeShapes Go.WideShapes Go.ChangeAt Go.RowKit
open ints (hide unhide)
open dt (Dt Kp RowAt Ow Grow)
set_option linter.unusedVariables false
set_option linter.unusedSimpArgs false
theorem CurAt.low {w w' : World} {B p lo : Nat} {c : Cu} (h : CurAt w B p c) (hb : Below lo w w') (h1 : B < lo) (h2 : p < lo) : CurAt w' B p c := by
  obtain ⟨cap, h3, h4, h5, h6⟩ := h.box
  exact ⟨h.ok, h.len, cap, (hb.block B h1).trans h3, h4, Nat.lt_of_lt_of_le h5 hb.size, fun i t ht j u hu => (dt.cell_blk (hb.block p h2) _).trans (h6 i t ht j u hu)⟩
theorem _root_.Go.Proofs.YtdmfbahnhkdamaaGreat.dt.Kp.low {B : Nat} {w w1 w2 : World} (h : Kp B w w1) (hb : Below w.heap.size w1 w2) : Kp B w w2 :=
  ⟨hb.os.trans h.os, hb.tape.trans h.tape, hb.output.trans h.output, Nat.le_trans h.size hb.size, fun k hk hB => (hb.block k hk).trans (h.block k hk hB)⟩
theorem infoLz : ∃ i z, Tryz.prog.info? 32 = some i ∧ i.zero = some z ∧ i.size = 7 ∧ i.bytes = 96 ∧ z.cells.size = 7 := by
  have hin : (Tryz.prog.info? 32).map (fun i => (i.bytes, i.size, i.zero.map (·.cells.size))) = some (96, 7, some 7) := by kernel_rfl
  cases hq : Tryz.prog.info? 32 with
  | none => simp [hq] at hin
  | some i =>
    simp [hq] at hin
    obtain ⟨h1, h2, z, hz, h3⟩ := hin
    exact ⟨i, z, rfl, hz, h2, h1, h3⟩
def BrkPL (r : Option (List Dt)) (lo : Nat) (w' : World) (sl : Value) : Prop := match r with | none => sl = .slice none 0 0 | some l => ∃ G, Grow 32 7 w' lo l sl G
set_option maxRecDepth 4000 in
set_option maxHeartbeats 4000000 in
theorem brkL_ok (E : Cu → Option Dt × Cu) (ct : Bool) (c : Cu) (left right : ByteArray) (hc0 : c.Ok) (hlen : c.ts.length ≤ 1099511627777) (hG : Goes E) (hE : ∀ cc : Cu, cc.Ok → cc.ts = c.ts → c.ix < cc.ix → LitAt E ct cc) (B p : Nat) (w : World) (h : CurAt w B p c) :
    Calls Tryz.prog 35 #[ptr B, .string left, .string right, .int .i64 0, .bool ct, .func (.func 11) #[ptr B] #[]] w fun e w' => ∃ sl, e = .returned (.tuple #[sl, .bool (brk E left right 0 c).1.isSome]) ∧ BrkPL (brk E left right 0 c).1 w.heap.size w' sl ∧ CurAt w' B p (brk E left right 0 c).2 ∧ Kp B w w' := by
  have en : ∀ args w, (callFunc 11 args).run Tryz.prog w = .ok (.enter 11 args) w := fun _ _ => rfl
  have ho := hide (open_ok B p c left w h)
  have hB := h.lt
  have hp := h.plt
  cases hO : c.opB left
  · have hs := hide (show brk E left right 0 c = (none, c.opn left) from by unfold brk; rw [hO]; rfl)
    rw [hO] at ho
    clear h hE
    unfold ptr at ho ⊢
    go_enter Tryz.func35, Tryz.ntmps35
    go_wp2_with fail
    refine (unhide ho).mono ?_
    rintro e w1 ⟨rfl, hc1, hk1⟩
    clear ho
    go_wp2_with fail
    go_ret2
    rw [unhide hs]
    exact ⟨_, rfl, rfl, hc1, hk1⟩
  · have hst := opn_stp hc0 left
    have hoi := opn_ix hO
    obtain ⟨R, hR⟩ : ∃ R, R = brkF E right 0 c.ts.length [] (c.opn left) := ⟨_, rfl⟩
    have hs := hide (show brk E left right 0 c = R from by unfold brk; rw [hO, hR]; rfl)
    rw [hO] at ho
    have HR := hide hR.symm
    clear h hR hO
    have hcl := hide (fun W (cc : Cu) (hc : CurAt W B p cc) => close_ok B p cc right W hc)
    have hip := hide (fun W (cc : Cu) (hc : CurAt W B p cc) => isPunct_ok B p cc right W hc)
    have hEE := hide (fun (cc : Cu) (h1 : cc.Ok) (h2 : cc.ts = c.ts) (h3 : c.ix < cc.ix) => hE cc h1 h2 h3 B p)
    clear hE
    unfold ptr at ho hcl hip hEE ⊢
    go_enter Tryz.func35, Tryz.ntmps35
    go_wp2_with fail
    refine (unhide ho).mono ?_
    rintro e w1 ⟨rfl, hc1, hk1⟩
    clear ho
    have hz1 := hk1.size
    go_wp2_with fail
    go_loopg [14] c.ts.length (fun g sl wr => ∃ (l : List Dt) (cc : Cu) (Gs : List Nat), Hid (brkF E right 0 g l cc = R) ∧ CurAt wr B p cc ∧ Hid (Grow 32 7 wr w.heap.size l sl Gs) ∧ Kp B w wr ∧ Hid (cc.ts = c.ts) ∧ c.ts.length ≤ g + cc.ix ∧ l.length + 1 + c.ix ≤ cc.ix)
    case atStart => exact ⟨[], c.opn left, [], HR, hc1, hide Grow.nil, hk1, hide hst.ts, Nat.le_add_right _ _, by rw [hoi]; simp; omega⟩
    case round =>
      obtain ⟨l, cc, Gs, hrun, hcc, hgr, hkr, hts, hfu, hll⟩ := hrel
      have hixl := hcc.ok.lt
      rw [unhide hts] at hixl
      obtain ⟨al, cl, hsl⟩ := (unhide hgr).form
      subst hsl
      have hlz : ¬ ((l.length : Int) < 0) := by omega
      obtain ⟨g', rfl⟩ : ∃ g', gk = g' + 1 := ⟨gk - 1, by omega⟩
      have hip2 := hide ((unhide hip) wr cc hcc)
      go_wp2_with fail
      refine (unhide hip2).mono ?_
      rintro e w2 ⟨rfl, b2⟩
      have hc2 := hcc.below b2
      have hgr2 := hide ((unhide hgr).keep b2.size (fun b hb _ => b2.block b hb))
      have hk2 := hkr.trans (Kp.of b2)
      cases hQ : cc.isP right
      · have hrun2 := hide (show (match (E cc).1 with | none => (none, (E cc).2) | some d => brkF E right 0 g' (l ++ [d]) (E cc).2) = R from by
          have e := unhide hrun
          rw [brkF, if_pos (.inr hQ)] at e
          exact e)
        have hgo := hG cc hcc.ok
        have hcall := hide ((unhide hEE) cc hcc.ok (unhide hts) (by omega) w2 hc2)
        go_wp2_with fail
        refine (unhide hcall).mono ?_
        rintro e w3 ⟨cs, F, rfl, hpo, hc3, hk3⟩
        obtain ⟨U, hU⟩ : ∃ U, U = E cc := ⟨_, rfl⟩
        rw [← hU] at hrun2 hgo hpo hc3 ⊢
        obtain ⟨r, C⟩ := U
        obtain ⟨k, tx, bl, ai, ni, ci, af, nf, cf, ln, co, rfl⟩ := hpo.shape
        clear hcall hU hip2 hrun
        have HP := hide hpo
        clear hpo
        have HC3 := hide hc3
        have HK3 := hide hk3
        have hz3 := hk3.size
        cases r with
        | none =>
          have hrun3 := hide (show (none, C) = R from unhide hrun2)
          go_wp2_with fail
          go_ret2
          rw [unhide hs, ← unhide hrun3]
          exact ⟨_, rfl, rfl, (unhide HC3).below ((Below.refl _ _).alloc (Nat.le_refl _) _), (hk2.trans (unhide HK3)).trans (Kp.of ((Below.refl _ _).alloc (Nat.le_refl _) _))⟩
        | some d =>
          have hrun3 := hide (show brkF E right 0 g' (l ++ [d]) C = R from unhide hrun2)
          have hix3 : cc.ix < C.ix := hgo.2 rfl
          have hts3 := hgo.1.ts
          have hlt3 := hgo.1.ok.lt
          rw [hts3, unhide hts] at hlt3
          have hgr3 := (unhide hgr2).kp (unhide HK3) hB
          obtain ⟨it, zt, q1, q2, q3, q4, q5⟩ := infoLz
          have HQ := hide (And.intro q1 (And.intro q2 (And.intro q3 (And.intro q4 q5))))
          clear q1 q2 q3 q4 q5
          obtain ⟨xss, hr3, hol3, hx3⟩ := hgr3.row
          have hr4 := hide (fun o => World.ownsRow.alloc hr3 o)
          have hbyt := hide (show (l.length + 1) * 96 ≤ 140737488355328 ∧ l.length + 1 ≤ maxLen from ⟨by omega, by unfold maxLen; omega⟩)
          have hsz4 := hide (fun o => show w.heap.size ≤ (w3.alloc o).heap.size from by have := hz3; have := b2.size; have := hkr.size; simp; omega)
          have hone := hide ((unhide HP).own.one)
          have HG := hide (And.intro hgr3 (And.intro hol3 hx3))
          have hTS := hide hts3
          clear hrun2 hgo hts3 hgr3 hr3 hol3 hx3
          go_wp2_with (first
            | (at_builtin; refine dt.wp_snoc (by rfl) _ _ (by rfl) Tryz.underlying27 (unhide HQ).1 (unhide HQ).2.1 (unhide HQ).2.2.1 (unhide HQ).2.2.2.1 (unhide HQ).2.2.2.2 (by omega) w.heap.size l.length xss.flatten _ (by rfl) ((unhide hr4) _) [.int .i64 k, .string tx, .bool bl, .slice ai ni ci, .slice af nf cf, .int .i64 ln, .int .i64 co] (by rfl) (unhide hone) (w3.heap.size + 1) (by simp) (by rfl) (unhide hbyt).1 (unhide hbyt).2 ((unhide hsz4) _) ?_; intro sl' w7 hr7 b7 hold7 hat7; have H7 := hide (And.intro hr7 (And.intro b7 (And.intro hold7 hat7))); clear hr7 b7 hold7 hat7))
          go_roundg g'
          case rel =>
            obtain ⟨hr7, b7, hold7, hat7⟩ := unhide H7
            obtain ⟨hgr3, hol3, hx3⟩ := unhide HG
            have bA : Below w3.heap.size w3 (w3.alloc (.cells #[.int .i64 k, .string tx, .bool bl, .slice ai ni ci, .slice af nf cf, .int .i64 ln, .int .i64 co] 32)) := (Below.refl _ _).alloc (Nat.le_refl _) _
            have hgr4 := hgr3.keep bA.size (fun b hb _ => bA.block b hb)
            have hown := fun b (hb : (Value.slice al l.length cl).ownBlock = some b) => (let ⟨_, hr, _⟩ := (unhide hgr2).row; (hr.lt b hb).2)
            have hF3 : ∀ b ∈ F, w2.heap.size ≤ b ∧ b < w3.heap.size := (unhide HP).rng
            have hsz : w.heap.size ≤ w2.heap.size := hk2.size
            have hmore := hgr4.more (dt.OwL.agree (fun w w' e cs F => dt.Ow.agree e cs F) (fun b hb j => dt.cell_blk (bA.block b (hgr3.rng b hb).2) j) hol3) hx3 (ow_below (unhide HP).own bA (fun b hb => (hF3 b hb).2)) (unhide HP).nodup (fun b hb => ⟨by have := (hF3 b hb).1; omega, by have := (hF3 b hb).2; have := bA.size; omega, fun hm => by have := ((unhide hgr2).rng b hm).2; have := (hF3 b hb).1; omega, fun e => by have := hown b e; have := (hF3 b hb).1; omega⟩) (by rfl) hr7 (by have := (hr7.lt); have := b7.size; exact this) hold7 hat7
            have hBs : B < w3.heap.size := by omega
            have hCA := (unhide HC3).below bA
            refine ⟨l ++ [d], C, Gs ++ F, hrun3, ?_, hide hmore, ?_, hide ((unhide hTS).trans (unhide hts)), by omega, by rw [List.length_append]; simp; omega⟩
            · exact hCA.low b7 hB hp
            · exact ((hk2.trans (unhide HK3)).trans (Kp.of bA)).low b7
          case measure => exact Nat.lt_succ_self _
      · have hrun2 := hide (show (some l, cc.cls right) = R from by
          have e := unhide hrun
          rw [brkF, if_neg (fun e => by rcases e with e | e; omega; rw [hQ] at e; cases e)] at e
          exact e)
        have hcl2 := hide ((unhide hcl) w2 cc hc2)
        rw [hQ] at hcl2
        clear hrun hip2
        go_wp2_with fail
        refine (unhide hcl2).mono ?_
        rintro e w3 ⟨rfl, hc3, hk3⟩
        clear hcl2
        go_wp2_with fail
        go_ret2
        rw [unhide hs, ← unhide hrun2]
        exact ⟨_, rfl, ⟨Gs, (unhide hgr2).kp hk3 hB⟩, hc3, hk2.trans hk3⟩
end Go.Proofs.YtdmfbahnhkdamaaGreat.cu
namespace Go.Proofs.YtdmfbahnhkdamaaGreat.cu
open Go.ChangeShapes Go.WideShapes Go.ChangeAt Go.RowKit
open ints (hide unhide)
open dt (Dt Kp RowAt Ow Grow)
set_option linter.unusedVariables false
set_option linter.unusedSimpArgs false
theorem infoFz : ∃ i z, Tryz.prog.info? 42 = some i ∧ i.zero = some z ∧ i.size = 10 ∧ i.bytes = 128 ∧ z.cells.size = 10 := by
  have hin : (Tryz.prog.info? 42).map (fun i => (i.bytes, i.size, i.zero.map (·.cells.size))) = some (128, 10, some 10) := by kernel_rfl
  cases hq : Tryz.prog.info? 42 with
  | none => simp [hq] at hin
  | some i =>
    simp [hq] at hin
    obtain ⟨h1, h2, z, hz, h3⟩ := hin
    exact ⟨i, z, rfl, hz, h2, h1, h3⟩
def BrkPF (r : Option (List Dt)) (lo : Nat) (w' : World) (sl : Value) : Prop := match r with | none => sl = .slice none 0 0 | some l => ∃ G, Grow 42 10 w' lo l sl G
set_option maxRecDepth 4000 in
set_option maxHeartbeats 4000000 in
theorem brkF_ok' (E : Cu → Option Dt × Cu) (ct : Bool) (c : Cu) (left right : ByteArray) (hc0 : c.Ok) (hlen : c.ts.length ≤ 1099511627777) (hG : Goes E) (hE : ∀ cc : Cu, cc.Ok → cc.ts = c.ts → c.ix < cc.ix → FldAt 37 E ct cc) (B p : Nat) (w : World) (h : CurAt w B p c) :
    Calls Tryz.prog 36 #[ptr B, .string left, .string right, .int .i64 0, .bool ct, .func (.func 37) #[ptr B] #[]] w fun e w' => ∃ sl, e = .returned (.tuple #[sl, .bool (brk E left right 0 c).1.isSome]) ∧ BrkPF (brk E left right 0 c).1 w.heap.size w' sl ∧ CurAt w' B p (brk E left right 0 c).2 ∧ Kp B w w' := by
  have en : ∀ args w, (callFunc 37 args).run Tryz.prog w = .ok (.enter 37 args) w := fun _ _ => rfl
  have ho := hide (open_ok B p c left w h)
  have hB := h.lt
  have hp := h.plt
  cases hO : c.opB left
  · have hs := hide (show brk E left right 0 c = (none, c.opn left) from by unfold brk; rw [hO]; rfl)
    rw [hO] at ho
    clear h hE
    unfold ptr at ho ⊢
    go_enter Tryz.func36, Tryz.ntmps36
    go_wp2_with fail
    refine (unhide ho).mono ?_
    rintro e w1 ⟨rfl, hc1, hk1⟩
    clear ho
    go_wp2_with fail
    go_ret2
    rw [unhide hs]
    exact ⟨_, rfl, rfl, hc1, hk1⟩
  · have hst := opn_stp hc0 left
    have hoi := opn_ix hO
    obtain ⟨R, hR⟩ : ∃ R, R = brkF E right 0 c.ts.length [] (c.opn left) := ⟨_, rfl⟩
    have hs := hide (show brk E left right 0 c = R from by unfold brk; rw [hO, hR]; rfl)
    rw [hO] at ho
    have HR := hide hR.symm
    clear h hR hO
    have hcl := hide (fun W (cc : Cu) (hc : CurAt W B p cc) => close_ok B p cc right W hc)
    have hip := hide (fun W (cc : Cu) (hc : CurAt W B p cc) => isPunct_ok B p cc right W hc)
    have hEE := hide (fun (cc : Cu) (h1 : cc.Ok) (h2 : cc.ts = c.ts) (h3 : c.ix < cc.ix) => hE cc h1 h2 h3 B p)
    clear hE
    unfold ptr at ho hcl hip hEE ⊢
    go_enter Tryz.func36, Tryz.ntmps36
    go_wp2_with fail
    refine (unhide ho).mono ?_
    rintro e w1 ⟨rfl, hc1, hk1⟩
    clear ho
    have hz1 := hk1.size
    go_wp2_with fail
    go_loopg [14] c.ts.length (fun g sl wr => ∃ (l : List Dt) (cc : Cu) (Gs : List Nat), Hid (brkF E right 0 g l cc = R) ∧ CurAt wr B p cc ∧ Hid (Grow 42 10 wr w.heap.size l sl Gs) ∧ Kp B w wr ∧ Hid (cc.ts = c.ts) ∧ c.ts.length ≤ g + cc.ix ∧ l.length + 1 + c.ix ≤ cc.ix)
    case atStart => exact ⟨[], c.opn left, [], HR, hc1, hide Grow.nil, hk1, hide hst.ts, Nat.le_add_right _ _, by rw [hoi]; simp; omega⟩
    case round =>
      obtain ⟨l, cc, Gs, hrun, hcc, hgr, hkr, hts, hfu, hll⟩ := hrel
      have hixl := hcc.ok.lt
      rw [unhide hts] at hixl
      obtain ⟨al, cl, hsl⟩ := (unhide hgr).form
      subst hsl
      have hlz : ¬ ((l.length : Int) < 0) := by omega
      obtain ⟨g', rfl⟩ : ∃ g', gk = g' + 1 := ⟨gk - 1, by omega⟩
      have hip2 := hide ((unhide hip) wr cc hcc)
      go_wp2_with fail
      refine (unhide hip2).mono ?_
      rintro e w2 ⟨rfl, b2⟩
      have hc2 := hcc.below b2
      have hgr2 := hide ((unhide hgr).keep b2.size (fun b hb _ => b2.block b hb))
      have hk2 := hkr.trans (Kp.of b2)
      cases hQ : cc.isP right
      · have hrun2 := hide (show (match (E cc).1 with | none => (none, (E cc).2) | some d => brkF E right 0 g' (l ++ [d]) (E cc).2) = R from by
          have e := unhide hrun
          rw [brkF, if_pos (.inr hQ)] at e
          exact e)
        have hgo := hG cc hcc.ok
        have hcall := hide ((unhide hEE) cc hcc.ok (unhide hts) (by omega) w2 hc2)
        go_wp2_with fail
        refine (unhide hcall).mono ?_
        rintro e w3 ⟨cs, F, rfl, hpo, hc3, hk3⟩
        obtain ⟨U, hU⟩ : ∃ U, U = E cc := ⟨_, rfl⟩
        rw [← hU] at hrun2 hgo hpo hc3 ⊢
        obtain ⟨r, C⟩ := U
        obtain ⟨nm, ds, X, Y, ⟨k, tx, bl, ai, ni, ci, af, nf, cf, ln, co, rfl⟩, rfl⟩ := hpo.shape
        clear hcall hU hip2 hrun
        have HP := hide hpo
        clear hpo
        have HC3 := hide hc3
        have HK3 := hide hk3
        have hz3 := hk3.size
        cases r with
        | none =>
          have hrun3 := hide (show (none, C) = R from unhide hrun2)
          go_wp2_with fail
          go_ret2
          rw [unhide hs, ← unhide hrun3]
          exact ⟨_, rfl, rfl, (unhide HC3).below ((Below.refl _ _).alloc (Nat.le_refl _) _), (hk2.trans (unhide HK3)).trans (Kp.of ((Below.refl _ _).alloc (Nat.le_refl _) _))⟩
        | some d =>
          have hrun3 := hide (show brkF E right 0 g' (l ++ [d]) C = R from unhide hrun2)
          have hix3 : cc.ix < C.ix := hgo.2 rfl
          have hts3 := hgo.1.ts
          have hlt3 := hgo.1.ok.lt
          rw [hts3, unhide hts] at hlt3
          have hgr3 := (unhide hgr2).kp (unhide HK3) hB
          obtain ⟨it, zt, q1, q2, q3, q4, q5⟩ := infoFz
          have HQ := hide (And.intro q1 (And.intro q2 (And.intro q3 (And.intro q4 q5))))
          clear q1 q2 q3 q4 q5
          obtain ⟨xss, hr3, hol3, hx3⟩ := hgr3.row
          have hr4 := hide (fun o => World.ownsRow.alloc hr3 o)
          have hbyt := hide (show (l.length + 1) * 128 ≤ 140737488355328 ∧ l.length + 1 ≤ maxLen from ⟨by omega, by unfold maxLen; omega⟩)
          have hsz4 := hide (fun o => show w.heap.size ≤ (w3.alloc o).heap.size from by have := hz3; have := b2.size; have := hkr.size; simp; omega)
          have hone := hide ((unhide HP).own.one)
          have HG := hide (And.intro hgr3 (And.intro hol3 hx3))
          have hTS := hide hts3
          clear hrun2 hgo hts3 hgr3 hr3 hol3 hx3
          go_wp2_with (first
            | (at_builtin; refine dt.wp_snoc (by rfl) _ _ (by rfl) Tryz.underlying28 (unhide HQ).1 (unhide HQ).2.1 (unhide HQ).2.2.1 (unhide HQ).2.2.2.1 (unhide HQ).2.2.2.2 (by omega) w.heap.size l.length xss.flatten _ (by rfl) ((unhide hr4) _) [.string nm, .int .i64 k, .string tx, .bool bl, .slice ai ni ci, .slice af nf cf, .int .i64 ln, .int .i64 co, .int .i64 X, .int .i64 Y] (by rfl) (unhide hone) (w3.heap.size + 1) (by simp) (by rfl) (unhide hbyt).1 (unhide hbyt).2 ((unhide hsz4) _) ?_; intro sl' w7 hr7 b7 hold7 hat7; have H7 := hide (And.intro hr7 (And.intro b7 (And.intro hold7 hat7))); clear hr7 b7 hold7 hat7))
          go_roundg g'
          case rel =>
            obtain ⟨hr7, b7, hold7, hat7⟩ := unhide H7
            obtain ⟨hgr3, hol3, hx3⟩ := unhide HG
            have bA : Below w3.heap.size w3 (w3.alloc (.cells #[.string nm, .int .i64 k, .string tx, .bool bl, .slice ai ni ci, .slice af nf cf, .int .i64 ln, .int .i64 co, .int .i64 X, .int .i64 Y] 42)) := (Below.refl _ _).alloc (Nat.le_refl _) _
            have hgr4 := hgr3.keep bA.size (fun b hb _ => bA.block b hb)
            have hown := fun b (hb : (Value.slice al l.length cl).ownBlock = some b) => (let ⟨_, hr, _⟩ := (unhide hgr2).row; (hr.lt b hb).2)
            have hF3 : ∀ b ∈ F, w2.heap.size ≤ b ∧ b < w3.heap.size := (unhide HP).rng
            have hsz : w.heap.size ≤ w2.heap.size := hk2.size
            have hmore := hgr4.more (dt.OwL.agree (fun w w' e cs F => dt.Ow.agree e cs F) (fun b hb j => dt.cell_blk (bA.block b (hgr3.rng b hb).2) j) hol3) hx3 (ow_below (unhide HP).own bA (fun b hb => (hF3 b hb).2)) (unhide HP).nodup (fun b hb => ⟨by have := (hF3 b hb).1; omega, by have := (hF3 b hb).2; have := bA.size; omega, fun hm => by have := ((unhide hgr2).rng b hm).2; have := (hF3 b hb).1; omega, fun e => by have := hown b e; have := (hF3 b hb).1; omega⟩) (by rfl) hr7 (by have := (hr7.lt); have := b7.size; exact this) hold7 hat7
            have hBs : B < w3.heap.size := by omega
            have hCA := (unhide HC3).below bA
            refine ⟨l ++ [d], C, Gs ++ F, hrun3, ?_, hide hmore, ?_, hide ((unhide hTS).trans (unhide hts)), by omega, by rw [List.length_append]; simp; omega⟩
            · exact hCA.low b7 hB hp
            · exact ((hk2.trans (unhide HK3)).trans (Kp.of bA)).low b7
          case measure => exact Nat.lt_succ_self _
      · have hrun2 := hide (show (some l, cc.cls right) = R from by
          have e := unhide hrun
          rw [brkF, if_neg (fun e => by rcases e with e | e; omega; rw [hQ] at e; cases e)] at e
          exact e)
        have hcl2 := hide ((unhide hcl) w2 cc hc2)
        rw [hQ] at hcl2
        clear hrun hip2
        go_wp2_with fail
        refine (unhide hcl2).mono ?_
        rintro e w3 ⟨rfl, hc3, hk3⟩
        clear hcl2
        go_wp2_with fail
        go_ret2
        rw [unhide hs, ← unhide hrun2]
        exact ⟨_, rfl, ⟨Gs, (unhide hgr2).kp hk3 hB⟩, hc3, hk2.trans hk3⟩
end Go.Proofs.YtdmfbahnhkdamaaGreat.cu
namespace Go.Proofs.YtdmfbahnhkdamaaGreat.cu
open Go.ChangeShapes Go.WideShapes Go.ChangeAt Go.RowKit
open ints (hide unhide)
open dt (Dt Kp RowAt Ow Grow)
set_option linter.unusedVariables false
set_option linter.unusedSimpArgs false
def LitFn (f : Nat) (L : Cu → Option Dt × Cu) (ct : Bool) (c : Cu) : Prop := ∀ (B p : Nat) (w : World), CurAt w B p c → Calls Tryz.prog f #[ptr B, .bool ct] w fun e w' => ∃ cs F, e = .returned (.tuple #[.agg cs.toArray, .bool (L c).1.isSome]) ∧ LitPost ((L c).1.getD zeroD) w w' cs F ∧ CurAt w' B p (L c).2 ∧ Kp B w w'
theorem list_ow {t : TypeId} {w : World} {lo : Nat} {l : List Dt} {sl : Value} {G : List Nat} (h : Grow t 7 w lo l sl G) (ln co : Int) : ∃ a n c F, sl = .slice a n c ∧ Ow w (litD 8 em false (Dt.of l) .nil ln co) [.int .i64 8, .string ⟨#[]⟩, .bool false, .slice a n c, .slice none 0 0, .int .i64 ln, .int .i64 co] F ∧ F.Nodup ∧ ∀ b ∈ F, lo ≤ b ∧ b < w.heap.size := by
  obtain ⟨a, n, c, F, rfl, h1, h2, h3, h4, h5, h6, h7⟩ := h.shut
  refine ⟨a, n, c, F, rfl, ?_, h4, h5⟩
  unfold litD
  unfold Ow
  refine ⟨_, rfl, rfl, ?_⟩
  unfold Ow
  refine ⟨_, rfl, rfl, ?_⟩
  unfold Ow
  refine ⟨_, rfl, rfl, ?_⟩
  unfold Ow
  refine ⟨a, n, c, _, F, [], rfl, h1, h2, h3, h7, ?_, by simp⟩
  unfold Ow
  refine ⟨none, 0, 0, _, [], [], rfl, Nat.le_refl _, Nat.zero_le _, fun _ => rfl, .inl ⟨rfl, rfl, rfl, rfl⟩, pos_ow _ _ _, rfl⟩
set_option maxRecDepth 4000 in
set_option maxHeartbeats 2000000 in
theorem list_ok (L : Cu → Option Dt × Cu) (ct : Bool) (c : Cu) (hc0 : c.Ok) (hlen : c.ts.length ≤ 1099511627777) (hG : Goes L) (hE : ∀ cc : Cu, cc.Ok → cc.ts = c.ts → c.ix < cc.ix → LitAt L ct cc) : LitFn 23 (listS L) ct c := by
  intro B p w h
  have ht := hide (fun W (bb : Below w.heap.size w W) => token_ok B p c W (h.below bb))
  have hb := hide (fun W (bb : Below w.heap.size w W) => brkL_ok L ct c bLb bRb hc0 hlen hG hE B p W (h.below bb))
  have hlt := h.lt
  have hplt := h.plt
  have hne : B ≠ w.heap.size := by omega
  have hnp : p ≠ w.heap.size := by omega
  have bA := hide (fun o => show Below w.heap.size w (w.alloc o) from (Below.refl _ _).alloc (Nat.le_refl _) _)
  have hZ := hide (fun o W (hk : Kp B (w.alloc o) W) => show W.heap[w.heap.size]? = some o from (hk.block w.heap.size (by simp) (by omega)).trans (heap_alloc_new w o))
  have hs0 := hide (show (brk L bLb bRb 0 c).1 = none → listS L c = (none, (brk L bLb bRb 0 c).2) from fun e => by unfold listS; rw [e])
  have hs1 := hide (show ∀ l, (brk L bLb bRb 0 c).1 = some l → listS L c = (some (litD 8 em false (Dt.of l) .nil c.tok.ln c.tok.co), (brk L bLb bRb 0 c).2) from fun l e => by unfold listS; rw [e])
  have hf2 := fld_pos c.tok
  obtain ⟨t, et⟩ : ∃ t, t = c.tok := ⟨_, rfl⟩
  rw [← et] at ht hs1 hf2
  obtain ⟨U, hU⟩ : ∃ U, U = brk L bLb bRb 0 c := ⟨_, rfl⟩
  rw [← hU] at hb hs0 hs1
  clear h hU et hE
  obtain ⟨r, C⟩ := U
  unfold Tk.cells at ht
  unfold ptr at ht hb ⊢
  go_enter Tryz.func23, Tryz.ntmps23
  go_wp2_with fail
  refine ((unhide ht) _ ((unhide bA) _)).mono ?_
  rintro e w1 ⟨rfl, b1⟩
  have hz1 : w.heap.size < w1.heap.size := by have := b1.size; simp at this; omega
  have bw1 := ((unhide bA) _).trans (b1.mono ((unhide bA) _).size)
  go_wp2_with fail
  refine ((unhide hb) _ (bw1.alloc bw1.size _)).mono ?_
  rintro e w2 ⟨sl, rfl, hbp, hc2, hk2⟩
  have hD2 := (hk2.block w1.heap.size (by simp) (by omega)).trans (heap_alloc_new w1 _)
  have hk12 := (Kp.of b1).trans ((Kp.of ((Below.refl _ _).alloc (Nat.le_refl _) _)).trans hk2)
  have hR2 := (unhide hZ) _ w2 hk12
  have hz2 : w1.heap.size < w2.heap.size := by have := hk2.size; simp at this; omega
  have d0 : w2.cell? ⟨w1.heap.size, 0, none⟩ = some (.int .i64 t.ln) := (dt.cell_cells hD2 0).trans rfl
  have d1 : w2.cell? ⟨w1.heap.size, 1, none⟩ = some (.int .i64 t.co) := (dt.cell_cells hD2 1).trans rfl
  have HT := hide (dt.there_cells hR2 (o := 0) (n := 7) (by decide))
  have HK := hide ((Kp.of ((unhide bA) _)).trans hk12)
  have HC := hide hc2
  have HB := hide hbp
  have hloZ := hide (show w.heap.size < (w1.alloc (.cells #[.int .i64 t.ln, .int .i64 t.co] 30)).heap.size from by simp; omega)
  clear ht hb hk2 hk12 hc2 hZ bA hR2 hD2 hbp bw1
  cases r with
  | none =>
    have hs2 := hide ((unhide hs0) rfl)
    obtain rfl : sl = .slice none 0 0 := unhide HB
    clear hs0 hs1
    go_wp2_with (first
      | refine wpList_store_mid (by rfl) 32 _ _ (by rfl) w.heap.size 0 #[.int .i64 0, .string ⟨#[]⟩, .bool false, .slice none 0 0, .slice none 0 0, .int .i64 0, .int .i64 0] (by rfl) (by rfl) (unhide HT) infoLt (dt.one_cells (cs := [.int .i64 0, .string ⟨#[]⟩, .bool false, .slice none 0 0, .slice none 0 0, .int .i64 0, .int .i64 0]) (by rfl)) ?_)
    refine bodyPost_ret (rgn.result_row_tmp rfl _ _ w.heap.size 0 [.int .i64 0, .string ⟨#[]⟩, .bool false, .slice none 0 0, .slice none 0 0, .int .i64 0, .int .i64 0] _ rfl (World.rangeAt_setCells_same _ _ _ _ (unhide HT)) Tryz.underlying32 rfl infoLt) rfl ?_
    rw [unhide hs2]
    exact ⟨_, [], rfl, ⟨leaf_shape 0 em false 0 0, leaf_ow _ 0 em false 0 0, List.nodup_nil, by simp⟩, (unhide HC).out hne hnp _ _, (unhide HK).out (Nat.le_refl _) _ _⟩
  | some l =>
    have hs2 := hide ((unhide hs1) l rfl)
    obtain ⟨Gs, hgr⟩ := unhide HB
    obtain ⟨a, n, c', F, rfl, how, hnd, hrg⟩ := list_ow hgr t.ln t.co
    have HO := hide (And.intro how (And.intro hnd hrg))
    clear hs0 hs1 hgr how hnd hrg HB
    go_wp2_with (first
      | refine wpList_store_mid (by rfl) 32 _ _ (by rfl) w.heap.size 0 #[.int .i64 8, .string ⟨#[]⟩, .bool false, .slice a n c', .slice none 0 0, .int .i64 t.ln, .int .i64 t.co] (by rfl) (by rfl) (unhide HT) infoLt (dt.one_cells (cs := [.int .i64 8, .string ⟨#[]⟩, .bool false, .slice a n c', .slice none 0 0, .int .i64 t.ln, .int .i64 t.co]) (by rfl)) ?_)
    refine bodyPost_ret (rgn.result_row_tmp rfl _ _ w.heap.size 0 [.int .i64 8, .string ⟨#[]⟩, .bool false, .slice a n c', .slice none 0 0, .int .i64 t.ln, .int .i64 t.co] _ rfl (World.rangeAt_setCells_same _ _ _ _ (unhide HT)) Tryz.underlying32 rfl infoLt) rfl ?_
    rw [unhide hs2]
    obtain ⟨how, hnd, hrg⟩ := unhide HO
    exact ⟨_, F, rfl, ⟨⟨_, _, _, _, _, _, _, _, _, _, _, rfl⟩, ow_out how (fun hm => by have := (hrg _ hm).1; have := unhide hloZ; omega) _ _, hnd, fun b hb => ⟨by have := (hrg b hb).1; have := unhide hloZ; omega, by rw [dt.size_setCells]; exact (hrg b hb).2⟩⟩, (unhide HC).out hne hnp _ _, (unhide HK).out (Nat.le_refl _) _ _⟩
theorem obj_ow {t : TypeId} {w : World} {lo : Nat} {l : List Dt} {sl : Value} {G : List Nat} (h : Grow t 10 w lo l sl G) (ln co : Int) : ∃ a n c F, sl = .slice a n c ∧ Ow w (litD 9 em false .nil (Dt.of l) ln co) [.int .i64 9, .string ⟨#[]⟩, .bool false, .slice none 0 0, .slice a n c, .int .i64 ln, .int .i64 co] F ∧ F.Nodup ∧ ∀ b ∈ F, lo ≤ b ∧ b < w.heap.size := by
  obtain ⟨a, n, c, F, rfl, h1, h2, h3, h4, h5, h6, h7⟩ := h.shut
  refine ⟨a, n, c, F, rfl, ?_, h4, h5⟩
  unfold litD
  unfold Ow
  refine ⟨_, rfl, rfl, ?_⟩
  unfold Ow
  refine ⟨_, rfl, rfl, ?_⟩
  unfold Ow
  refine ⟨_, rfl, rfl, ?_⟩
  unfold Ow
  refine ⟨none, 0, 0, _, [], F, rfl, Nat.le_refl _, Nat.zero_le _, fun _ => rfl, .inl ⟨rfl, rfl, rfl, rfl⟩, ?_, rfl⟩
  unfold Ow
  exact ⟨a, n, c, _, F, [], rfl, h1, h2, h3, h7, pos_ow _ _ _, by simp⟩
set_option maxRecDepth 4000 in
set_option maxHeartbeats 2000000 in
theorem obj_ok (L : Cu → Option Dt × Cu) (ct : Bool) (c : Cu) (hc0 : c.Ok) (hlen : c.ts.length ≤ 1099511627777) (hG : Goes L) (hE : ∀ cc : Cu, cc.Ok → cc.ts = c.ts → c.ix < cc.ix → FldAt 37 (argS L) ct cc) : LitFn 24 (objS L) ct c := by
  intro B p w h
  have ht := hide (fun W (bb : Below w.heap.size w W) => token_ok B p c W (h.below bb))
  have hb := hide (fun W (bb : Below w.heap.size w W) => brkF_ok' (argS L) ct c bLc bRc hc0 hlen (argS_goes hG) hE B p W (h.below bb))
  have hlt := h.lt
  have hplt := h.plt
  have hne : B ≠ w.heap.size := by omega
  have hnp : p ≠ w.heap.size := by omega
  have bA := hide (fun o => show Below w.heap.size w (w.alloc o) from (Below.refl _ _).alloc (Nat.le_refl _) _)
  have hZ := hide (fun o W (hk : Kp B (w.alloc o) W) => show W.heap[w.heap.size]? = some o from (hk.block w.heap.size (by simp) (by omega)).trans (heap_alloc_new w o))
  have hs0 := hide (show (brk (argS L) bLc bRc 0 c).1 = none → objS L c = (none, (brk (argS L) bLc bRc 0 c).2) from fun e => by unfold objS; rw [e])
  have hs1 := hide (show ∀ l, (brk (argS L) bLc bRc 0 c).1 = some l → objS L c = (some (litD 9 em false .nil (Dt.of l) c.tok.ln c.tok.co), (brk (argS L) bLc bRc 0 c).2) from fun l e => by unfold objS; rw [e])
  have hf2 := fld_pos c.tok
  obtain ⟨t, et⟩ : ∃ t, t = c.tok := ⟨_, rfl⟩
  rw [← et] at ht hs1 hf2
  obtain ⟨U, hU⟩ : ∃ U, U = brk (argS L) bLc bRc 0 c := ⟨_, rfl⟩
  rw [← hU] at hb hs0 hs1
  clear h hU et hE
  obtain ⟨r, C⟩ := U
  unfold Tk.cells at ht
  unfold ptr at ht hb ⊢
  go_enter Tryz.func24, Tryz.ntmps24
  go_wp2_with fail
  refine ((unhide ht) _ ((unhide bA) _)).mono ?_
  rintro e w1 ⟨rfl, b1⟩
  have hz1 : w.heap.size < w1.heap.size := by have := b1.size; simp at this; omega
  have bw1 := ((unhide bA) _).trans (b1.mono ((unhide bA) _).size)
  go_wp2_with fail
  refine ((unhide hb) _ (bw1.alloc bw1.size _)).mono ?_
  rintro e w2 ⟨sl, rfl, hbp, hc2, hk2⟩
  have hD2 := (hk2.block w1.heap.size (by simp) (by omega)).trans (heap_alloc_new w1 _)
  have hk12 := (Kp.of b1).trans ((Kp.of ((Below.refl _ _).alloc (Nat.le_refl _) _)).trans hk2)
  have hR2 := (unhide hZ) _ w2 hk12
  have hz2 : w1.heap.size < w2.heap.size := by have := hk2.size; simp at this; omega
  have d0 : w2.cell? ⟨w1.heap.size, 0, none⟩ = some (.int .i64 t.ln) := (dt.cell_cells hD2 0).trans rfl
  have d1 : w2.cell? ⟨w1.heap.size, 1, none⟩ = some (.int .i64 t.co) := (dt.cell_cells hD2 1).trans rfl
  have HT := hide (dt.there_cells hR2 (o := 0) (n := 7) (by decide))
  have HK := hide ((Kp.of ((unhide bA) _)).trans hk12)
  have HC := hide hc2
  have HB := hide hbp
  have hloZ := hide (show w.heap.size < (w1.alloc (.cells #[.int .i64 t.ln, .int .i64 t.co] 30)).heap.size from by simp; omega)
  clear ht hb hk2 hk12 hc2 hZ bA hR2 hD2 hbp bw1
  cases r with
  | none =>
    have hs2 := hide ((unhide hs0) rfl)
    obtain rfl : sl = .slice none 0 0 := unhide HB
    clear hs0 hs1
    go_wp2_with (first
      | refine wpList_store_mid (by rfl) 32 _ _ (by rfl) w.heap.size 0 #[.int .i64 0, .string ⟨#[]⟩, .bool false, .slice none 0 0, .slice none 0 0, .int .i64 0, .int .i64 0] (by rfl) (by rfl) (unhide HT) infoLt (dt.one_cells (cs := [.int .i64 0, .string ⟨#[]⟩, .bool false, .slice none 0 0, .slice none 0 0, .int .i64 0, .int .i64 0]) (by rfl)) ?_)
    refine bodyPost_ret (rgn.result_row_tmp rfl _ _ w.heap.size 0 [.int .i64 0, .string ⟨#[]⟩, .bool false, .slice none 0 0, .slice none 0 0, .int .i64 0, .int .i64 0] _ rfl (World.rangeAt_setCells_same _ _ _ _ (unhide HT)) Tryz.underlying32 rfl infoLt) rfl ?_
    rw [unhide hs2]
    exact ⟨_, [], rfl, ⟨leaf_shape 0 em false 0 0, leaf_ow _ 0 em false 0 0, List.nodup_nil, by simp⟩, (unhide HC).out hne hnp _ _, (unhide HK).out (Nat.le_refl _) _ _⟩
  | some l =>
    have hs2 := hide ((unhide hs1) l rfl)
    obtain ⟨Gs, hgr⟩ := unhide HB
    obtain ⟨a, n, c', F, rfl, how, hnd, hrg⟩ := obj_ow hgr t.ln t.co
    have HO := hide (And.intro how (And.intro hnd hrg))
    clear hs0 hs1 hgr how hnd hrg HB
    go_wp2_with (first
      | refine wpList_store_mid (by rfl) 32 _ _ (by rfl) w.heap.size 0 #[.int .i64 9, .string ⟨#[]⟩, .bool false, .slice none 0 0, .slice a n c', .int .i64 t.ln, .int .i64 t.co] (by rfl) (by rfl) (unhide HT) infoLt (dt.one_cells (cs := [.int .i64 9, .string ⟨#[]⟩, .bool false, .slice none 0 0, .slice a n c', .int .i64 t.ln, .int .i64 t.co]) (by rfl)) ?_)
    refine bodyPost_ret (rgn.result_row_tmp rfl _ _ w.heap.size 0 [.int .i64 9, .string ⟨#[]⟩, .bool false, .slice none 0 0, .slice a n c', .int .i64 t.ln, .int .i64 t.co] _ rfl (World.rangeAt_setCells_same _ _ _ _ (unhide HT)) Tryz.underlying32 rfl infoLt) rfl ?_
    rw [unhide hs2]
    obtain ⟨how, hnd, hrg⟩ := unhide HO
    exact ⟨_, F, rfl, ⟨⟨_, _, _, _, _, _, _, _, _, _, _, rfl⟩, ow_out how (fun hm => by have := (hrg _ hm).1; have := unhide hloZ; omega) _ _, hnd, fun b hb => ⟨by have := (hrg b hb).1; have := unhide hloZ; omega, by rw [dt.size_setCells]; exact (hrg b hb).2⟩⟩, (unhide HC).out hne hnp _ _, (unhide HK).out (Nat.le_refl _) _ _⟩
end Go.Proofs.YtdmfbahnhkdamaaGreat.cu
namespace Go.Proofs.YtdmfbahnhkdamaaGreat.cu
open Go.ChangeShapes Go.WideShapes Go.ChangeAt Go.RowKit
open ints (hide unhide)
open dt (Dt Kp RowAt Ow Grow)
set_option linter.unusedVariables false
set_option linter.unusedSimpArgs false
set_option maxRecDepth 4000 in
set_option maxHeartbeats 1000000 in
theorem field_ok (E : Cu → Option Dt × Cu) (ct : Bool) (c : Cu) (hA : FldAt 48 E ct c) : FldAt 37 E ct c := by
  intro B p w h
  have ha := hide (fun W (bb : Below w.heap.size w W) => hA B p W (h.below bb))
  have hlt := h.lt
  have hplt := h.plt
  have hne : B ≠ w.heap.size := by omega
  have hnp : p ≠ w.heap.size := by omega
  have bA := hide (fun o => show Below w.heap.size w (w.alloc o) from (Below.refl _ _).alloc (Nat.le_refl _) _)
  have hZ := hide (fun o W (hk : Kp B (w.alloc o) W) => show W.heap[w.heap.size]? = some o from (hk.block w.heap.size (by simp) (by omega)).trans (heap_alloc_new w o))
  obtain ⟨U, hU⟩ : ∃ U, U = E c := ⟨_, rfl⟩
  rw [← hU] at ha ⊢
  clear h hU hA
  obtain ⟨r, C⟩ := U
  unfold ptr at ha ⊢
  go_enter Tryz.func37, Tryz.ntmps37
  go_wp2_with fail
  refine ((unhide ha) _ ((unhide bA) _)).mono ?_
  rintro e w2 ⟨cs, F, rfl, hpo, hc2, hk2⟩
  obtain ⟨nm, ds, X, Y, ⟨k, tx, bl, ai, ni, ci, af, nf, cf, ln, co, rfl⟩, rfl⟩ := hpo.shape
  have hR2 := (unhide hZ) _ w2 hk2
  have hz2 : w.heap.size < w2.heap.size := by have := hk2.size; simp at this; omega
  have HT := hide (fun o => dt.there_cells ((Below.heap_alloc w2 o w.heap.size hz2).trans hR2) (o := 0) (n := 10) (by decide))
  have HK := hide ((Kp.of ((unhide bA) _)).trans hk2)
  have HC := hide hc2
  have HP := hide hpo
  have hrF : ∀ b ∈ F, w.heap.size < b ∧ b < w2.heap.size := fun b hb => ⟨by have := (hpo.rng b hb).1; simp at this; omega, (hpo.rng b hb).2⟩
  clear ha hk2 hc2 hZ bA hR2 hpo
  go_wp2_with (first
    | refine wpList_store_mid (by rfl) 42 _ _ (by rfl) w.heap.size 0 #[.string nm, .int .i64 k, .string tx, .bool bl, .slice ai ni ci, .slice af nf cf, .int .i64 ln, .int .i64 co, .int .i64 X, .int .i64 Y] (by rfl) (by rfl) ((unhide HT) _) infoLf (dt.one_cells (cs := [.string nm, .int .i64 k, .string tx, .bool bl, .slice ai ni ci, .slice af nf cf, .int .i64 ln, .int .i64 co, .int .i64 X, .int .i64 Y]) (by rfl)) ?_)
  refine bodyPost_ret (rgn.result_row_tmp rfl _ _ w.heap.size 0 [.string nm, .int .i64 k, .string tx, .bool bl, .slice ai ni ci, .slice af nf cf, .int .i64 ln, .int .i64 co, .int .i64 X, .int .i64 Y] _ rfl (World.rangeAt_setCells_same _ _ _ _ ((unhide HT) _)) Tryz.underlying42 rfl infoLf) rfl ?_
  have hown := ow_out (ow_below (unhide HP).own ((Below.refl _ _).alloc (Nat.le_refl _) (.cells #[.string nm, .int .i64 k, .string tx, .bool bl, .slice ai ni ci, .slice af nf cf, .int .i64 ln, .int .i64 co, .int .i64 X, .int .i64 Y] 51)) (fun b hb => (hrF b hb).2)) (b := w.heap.size) (fun hb => by have := (hrF _ hb).1; omega) 0 [.string nm, .int .i64 k, .string tx, .bool bl, .slice ai ni ci, .slice af nf cf, .int .i64 ln, .int .i64 co, .int .i64 X, .int .i64 Y]
  exact ⟨_, F, rfl, ⟨⟨nm, _, X, Y, ⟨k, tx, bl, ai, ni, ci, af, nf, cf, ln, co, rfl⟩, rfl⟩, hown, (unhide HP).nodup, fun b hb => ⟨by have := (hrF b hb).1; omega, by rw [dt.size_setCells]; have := (hrF b hb).2; simp; omega⟩⟩, ((unhide HC).below ((Below.refl _ _).alloc (Nat.le_refl _) _)).out hne hnp _ _, ((unhide HK).trans (Kp.of ((Below.refl _ _).alloc (Nat.le_refl _) _))).out (Nat.le_refl _) _ _⟩
theorem word_form (t : Tk) : ∃ (k : Int) (s : ByteArray), wordC t t.tx = leafC k s false t.ln t.co ∧ wordD t = litD k s false .nil .nil t.ln t.co := by
  unfold wordC wordD
  split
  · exact ⟨5, t.tx, rfl, rfl⟩
  · split
    · exact ⟨6, em, rfl, rfl⟩
    · exact ⟨7, t.tx, rfl, rfl⟩
theorem var_post (c : Cu) : ∃ d, (varS c).1.getD zeroD = d ∧ (varS c).1.isSome = c.take.isN ∧ (varS c).2 = c.take.name ∧ ∃ k s ln co, varC c = leafC k s false ln co ∧ d = litD k s false .nil .nil ln co := by
  unfold varS varC
  split
  · exact ⟨_, rfl, by simp [*], rfl, _, _, _, _, rfl, rfl⟩
  · exact ⟨_, rfl, by simp [*], rfl, 0, em, 0, 0, rfl, rfl⟩
set_option maxRecDepth 4000 in
set_option maxHeartbeats 8000000 in
theorem lit_ok (L : Cu → Option Dt × Cu) (ct : Bool) (c : Cu) (hc0 : c.Ok) (hls' : LitFn 23 (listS L) ct c) (hob' : LitFn 24 (objS L) ct c) : LitAt (litS L ct) ct c := by
  intro B p w h
  have hd := hide (fun W (bb : Below w.heap.size w W) => dead_ok B p c W (h.below bb))
  have ht := hide (fun W (bb : Below w.heap.size w W) => token_ok B p c W (h.below bb))
  have hip := hide (fun q W (bb : Below w.heap.size w W) => isPunct_ok B p c q W (h.below bb))
  have hrf := hide (fun W (bb : Below w.heap.size w W) => refuse0_ok B p c W (h.below bb))
  have hls := hide (fun W (bb : Below w.heap.size w W) => hls' B p W (h.below bb))
  have hob := hide (fun W (bb : Below w.heap.size w W) => hob' B p W (h.below bb))
  have hlt := h.lt
  have hplt := h.plt
  have hne : B ≠ w.heap.size := by omega
  have hnp : p ≠ w.heap.size := by omega
  have bA := hide (fun o => show Below w.heap.size w (w.alloc o) from (Below.refl _ _).alloc (Nat.le_refl _) _)
  have hZ := hide (fun o W (hk : Kp B (w.alloc o) W) => show W.heap[w.heap.size]? = some o from (hk.block w.heap.size (by simp) (by omega)).trans (heap_alloc_new w o))
  by_cases hkd : c.kd = 0
  · have ekd : (c.kd != 0) = false := by simpa using hkd
    have hm : ∀ k : Int, c.tok.k = k → k ≠ 0 → k ≠ 1 → c.ix + 1 < c.ts.length := fun k e h0 h1 => more_of hc0 (by rw [e]; exact h0) (by rw [e]; exact h1)
    have hSS := hide (show litS L ct c = (if c.tok.k = 4 then (some (litD 2 c.tok.tx false .nil .nil c.tok.ln c.tok.co), c.take)
      else if c.tok.k = 5 then (some (litD 3 c.tok.tx false .nil .nil c.tok.ln c.tok.co), c.take)
      else if c.tok.k = 6 ∨ c.tok.k = 7 then (some (litD 4 c.tok.va (decide (c.tok.k = 7)) .nil .nil c.tok.ln c.tok.co), c.take)
      else if c.tok.k = 3 then (some (wordD c.tok), c.take)
      else if c.isP bDol ∧ ct = false then varS c
      else if c.isP bLb then listS L c
      else if c.isP bLc then objS L c
      else (none, c.stop 70)) from by unfold litS; rw [if_neg (fun e => e hkd)])
    have hl := hide (fun k s W (bb : Below w.heap.size w W) (hm : c.ix + 1 < c.ts.length) => leaf_ok B p c k s W (h.below bb) hm)
    have hwd := hide (fun s W (bb : Below w.heap.size w W) (hm : c.ix + 1 < c.ts.length) => word_ok B p c s W (h.below bb) hm)
    have hvr := hide (fun W (bb : Below w.heap.size w W) (hm : c.ix + 1 < c.ts.length) => var_ok B p c W (h.below bb) hm)
    have hmP := hide (fun q (e : c.isP q = true) => isP_more hc0 e)
    obtain ⟨t, et⟩ : ∃ t, t = c.tok := ⟨_, rfl⟩
    rw [← et] at ht hl hwd hSS hm
    rw [ekd] at hd
    have Het := hide et
    clear h et hls' hob' hkd ekd
    unfold Tk.cells at ht
    unfold leafC at hl
    unfold ptr at hd ht hip hrf hls hob hl hwd hvr ⊢
    by_cases h4 : t.k = 4
    · have e4 : (t.k == 4) = true := by simpa using h4
      have hmm := hm 4 h4 (by decide) (by decide)
      have hl := hide (fun k s W bb => (unhide hl) k s W bb hmm)
      have hs2 := hide (show litS L ct c = (some (litD 2 t.tx false .nil .nil t.ln t.co), c.take) from by rw [unhide hSS, if_pos h4])
      clear h4 hm hSS hmm
      go_enter Tryz.func11, Tryz.ntmps11
      go_wp2_with fail
      refine ((unhide hd) _ ((unhide bA) _)).mono ?_
      rintro e w1 ⟨rfl, rfl⟩
      go_wp2_with fail
      refine ((unhide ht) _ ((unhide bA) _)).mono ?_
      rintro e w1 ⟨rfl, b1⟩
      have bw1 := ((unhide bA) _).trans (b1.mono ((unhide bA) _).size)
      have bw2 := fun o => bw1.alloc bw1.size o
      go_wp2_with fail
      refine ((unhide hl) 2 t.tx _ (bw2 _)).mono ?_
      rintro e w2 ⟨rfl, hc2, hk2⟩
      have hk02 := (Kp.of b1).trans ((Kp.of ((Below.refl _ _).alloc (Nat.le_refl _) _)).trans hk2)
      have hR2 := (unhide hZ) _ w2 hk02
      have HT := hide (dt.there_cells hR2 (o := 0) (n := 7) (by decide))
      have HK := hide ((Kp.of ((unhide bA) _)).trans hk02)
      have HC := hide hc2
      clear hl hwd hvr hls hob hip hrf ht hd hk2 hk02 hc2 hZ bA hR2 bw1 bw2
      go_wp2_with (first
        | refine wpList_store_mid (by rfl) 32 _ _ (by rfl) w.heap.size 0 #[.int .i64 2, .string t.tx, .bool false, .slice none 0 0, .slice none 0 0, .int .i64 t.ln, .int .i64 t.co] (by rfl) (by rfl) (unhide HT) infoLt (dt.one_cells (cs := [.int .i64 2, .string t.tx, .bool false, .slice none 0 0, .slice none 0 0, .int .i64 t.ln, .int .i64 t.co]) (by rfl)) ?_)
      refine bodyPost_ret (rgn.result_row_tmp rfl _ _ w.heap.size 0 [.int .i64 2, .string t.tx, .bool false, .slice none 0 0, .slice none 0 0, .int .i64 t.ln, .int .i64 t.co] _ rfl (World.rangeAt_setCells_same _ _ _ _ (unhide HT)) Tryz.underlying32 rfl infoLt) rfl ?_
      rw [unhide hs2]
      exact ⟨_, [], rfl, ⟨leaf_shape 2 t.tx false t.ln t.co, leaf_ow _ 2 t.tx false t.ln t.co, List.nodup_nil, by simp⟩, (unhide HC).out hne hnp _ _, (unhide HK).out (Nat.le_refl _) _ _⟩
    have e4 : (t.k == 4) = false := by simpa using h4
    by_cases h5 : t.k = 5
    · have e5 : (t.k == 5) = true := by simpa using h5
      have hmm := hm 5 h5 (by decide) (by decide)
      have hl := hide (fun k s W bb => (unhide hl) k s W bb hmm)
      have hs2 := hide (show litS L ct c = (some (litD 3 t.tx false .nil .nil t.ln t.co), c.take) from by rw [unhide hSS, if_neg h4, if_pos h5])
      clear h4 h5 hm hSS hmm
      go_enter Tryz.func11, Tryz.ntmps11
      go_wp2_with fail
      refine ((unhide hd) _ ((unhide bA) _)).mono ?_
      rintro e w1 ⟨rfl, rfl⟩
      go_wp2_with fail
      refine ((unhide ht) _ ((unhide bA) _)).mono ?_
      rintro e w1 ⟨rfl, b1⟩
      have bw1 := ((unhide bA) _).trans (b1.mono ((unhide bA) _).size)
      have bw2 := fun o => bw1.alloc bw1.size o
      go_wp2_with fail
      refine ((unhide hl) 3 t.tx _ (bw2 _)).mono ?_
      rintro e w2 ⟨rfl, hc2, hk2⟩
      have hk02 := (Kp.of b1).trans ((Kp.of ((Below.refl _ _).alloc (Nat.le_refl _) _)).trans hk2)
      have hR2 := (unhide hZ) _ w2 hk02
      have HT := hide (dt.there_cells hR2 (o := 0) (n := 7) (by decide))
      have HK := hide ((Kp.of ((unhide bA) _)).trans hk02)
      have HC := hide hc2
      clear hl hwd hvr hls hob hip hrf ht hd hk2 hk02 hc2 hZ bA hR2 bw1 bw2
      go_wp2_with (first
        | refine wpList_store_mid (by rfl) 32 _ _ (by rfl) w.heap.size 0 #[.int .i64 3, .string t.tx, .bool false, .slice none 0 0, .slice none 0 0, .int .i64 t.ln, .int .i64 t.co] (by rfl) (by rfl) (unhide HT) infoLt (dt.one_cells (cs := [.int .i64 3, .string t.tx, .bool false, .slice none 0 0, .slice none 0 0, .int .i64 t.ln, .int .i64 t.co]) (by rfl)) ?_)
      refine bodyPost_ret (rgn.result_row_tmp rfl _ _ w.heap.size 0 [.int .i64 3, .string t.tx, .bool false, .slice none 0 0, .slice none 0 0, .int .i64 t.ln, .int .i64 t.co] _ rfl (World.rangeAt_setCells_same _ _ _ _ (unhide HT)) Tryz.underlying32 rfl infoLt) rfl ?_
      rw [unhide hs2]
      exact ⟨_, [], rfl, ⟨leaf_shape 3 t.tx false t.ln t.co, leaf_ow _ 3 t.tx false t.ln t.co, List.nodup_nil, by simp⟩, (unhide HC).out hne hnp _ _, (unhide HK).out (Nat.le_refl _) _ _⟩
    have e5 : (t.k == 5) = false := by simpa using h5
    by_cases h6 : t.k = 6
    · have e6 : (t.k == 6) = true := by simpa using h6
      have e7 : (t.k == 7) = false := by rw [h6]; rfl
      have hmm := hm 6 h6 (by decide) (by decide)
      have hl := hide (fun k s W bb => (unhide hl) k s W bb hmm)
      have hs2 := hide (show litS L ct c = (some (litD 4 t.va false .nil .nil t.ln t.co), c.take) from by rw [unhide hSS, if_neg h4, if_neg h5, if_pos (.inl h6), show decide (t.k = 7) = false from by rw [h6]; rfl])
      clear h4 h5 h6 hm hSS hmm
      go_enter Tryz.func11, Tryz.ntmps11
      go_wp2_with fail
      refine ((unhide hd) _ ((unhide bA) _)).mono ?_
      rintro e w1 ⟨rfl, rfl⟩
      go_wp2_with fail
      refine ((unhide ht) _ ((unhide bA) _)).mono ?_
      rintro e w1 ⟨rfl, b1⟩
      have bw1 := ((unhide bA) _).trans (b1.mono ((unhide bA) _).size)
      have bw2 := fun o => bw1.alloc bw1.size o
      go_wp2_with fail
      refine ((unhide hl) 4 t.va _ (bw2 _)).mono ?_
      rintro e w2 ⟨rfl, hc2, hk2⟩
      have hT2 := (hk2.block w1.heap.size (by simp) (by have := bw1.size; omega)).trans (heap_alloc_new w1 _)
      have hk02 := (Kp.of b1).trans ((Kp.of ((Below.refl _ _).alloc (Nat.le_refl _) _)).trans hk2)
      have hR2 := (unhide hZ) _ w2 hk02
      have hz2 : w.heap.size < w2.heap.size := by have := hk02.size; simp at this; omega
      have hz3 : w1.heap.size < w2.heap.size := by have := hk2.size; simp at this; omega
      have k0 : ∀ o, (w2.alloc o).cell? ⟨w1.heap.size, 0, none⟩ = some (.int .i64 t.k) := fun o => (dt.cell_cells ((Below.heap_alloc w2 o w1.heap.size hz3).trans hT2) 0).trans rfl
      have HT := hide (fun o => dt.there_cells ((Below.heap_alloc w2 o w.heap.size hz2).trans hR2) (o := 0) (n := 7) (by decide))
      have HK := hide ((Kp.of ((unhide bA) _)).trans hk02)
      have HC := hide hc2
      clear hl hwd hvr hls hob hip hrf ht hd hk2 hk02 hc2 hZ bA hR2 bw1 bw2 hT2
      go_wp2_with (first
        | refine wpList_store_mid (by rfl) 32 _ _ (by rfl) w.heap.size 0 #[.int .i64 4, .string t.va, .bool false, .slice none 0 0, .slice none 0 0, .int .i64 t.ln, .int .i64 t.co] (by rfl) (by rfl) ((unhide HT) _) infoLt (dt.one_cells (cs := [.int .i64 4, .string t.va, .bool false, .slice none 0 0, .slice none 0 0, .int .i64 t.ln, .int .i64 t.co]) (by rfl)) ?_)
      refine bodyPost_ret (rgn.result_row_tmp rfl _ _ w.heap.size 0 [.int .i64 4, .string t.va, .bool false, .slice none 0 0, .slice none 0 0, .int .i64 t.ln, .int .i64 t.co] _ rfl (World.rangeAt_setCells_same _ _ _ _ ((unhide HT) _)) Tryz.underlying32 rfl infoLt) rfl ?_
      rw [unhide hs2]
      exact ⟨_, [], rfl, ⟨leaf_shape 4 t.va false t.ln t.co, leaf_ow _ 4 t.va false t.ln t.co, List.nodup_nil, by simp⟩, ((unhide HC).below ((Below.refl _ _).alloc (Nat.le_refl _) _)).out hne hnp _ _, ((unhide HK).trans (Kp.of ((Below.refl _ _).alloc (Nat.le_refl _) _))).out (Nat.le_refl _) _ _⟩
    have e6 : (t.k == 6) = false := by simpa using h6
    by_cases h7 : t.k = 7
    · have e7 : (t.k == 7) = true := by simpa using h7
      have hmm := hm 7 h7 (by decide) (by decide)
      have hl := hide (fun k s W bb => (unhide hl) k s W bb hmm)
      have hs2 := hide (show litS L ct c = (some (litD 4 t.va true .nil .nil t.ln t.co), c.take) from by rw [unhide hSS, if_neg h4, if_neg h5, if_pos (.inr h7), show decide (t.k = 7) = true from by rw [h7]; rfl])
      clear h4 h5 h6 h7 hm hSS hmm
      go_enter Tryz.func11, Tryz.ntmps11
      go_wp2_with fail
      refine ((unhide hd) _ ((unhide bA) _)).mono ?_
      rintro e w1 ⟨rfl, rfl⟩
      go_wp2_with fail
      refine ((unhide ht) _ ((unhide bA) _)).mono ?_
      rintro e w1 ⟨rfl, b1⟩
      have bw1 := ((unhide bA) _).trans (b1.mono ((unhide bA) _).size)
      have bw2 := fun o => bw1.alloc bw1.size o
      go_wp2_with fail
      refine ((unhide hl) 4 t.va _ (bw2 _)).mono ?_
      rintro e w2 ⟨rfl, hc2, hk2⟩
      have hT2 := (hk2.block w1.heap.size (by simp) (by have := bw1.size; omega)).trans (heap_alloc_new w1 _)
      have hk02 := (Kp.of b1).trans ((Kp.of ((Below.refl _ _).alloc (Nat.le_refl _) _)).trans hk2)
      have hR2 := (unhide hZ) _ w2 hk02
      have hz2 : w.heap.size < w2.heap.size := by have := hk02.size; simp at this; omega
      have hz3 : w1.heap.size < w2.heap.size := by have := hk2.size; simp at this; omega
      have k0 : ∀ o, (w2.alloc o).cell? ⟨w1.heap.size, 0, none⟩ = some (.int .i64 t.k) := fun o => (dt.cell_cells ((Below.heap_alloc w2 o w1.heap.size hz3).trans hT2) 0).trans rfl
      have HT := hide (fun o => dt.there_cells ((Below.heap_alloc w2 o w.heap.size hz2).trans hR2) (o := 0) (n := 7) (by decide))
      have HK := hide ((Kp.of ((unhide bA) _)).trans hk02)
      have HC := hide hc2
      clear hl hwd hvr hls hob hip hrf ht hd hk2 hk02 hc2 hZ bA hR2 bw1 bw2 hT2
      go_wp2_with (first
        | refine wpList_store_mid (by rfl) 32 _ _ (by rfl) w.heap.size 0 #[.int .i64 4, .string t.va, .bool true, .slice none 0 0, .slice none 0 0, .int .i64 t.ln, .int .i64 t.co] (by rfl) (by rfl) ((unhide HT) _) infoLt (dt.one_cells (cs := [.int .i64 4, .string t.va, .bool true, .slice none 0 0, .slice none 0 0, .int .i64 t.ln, .int .i64 t.co]) (by rfl)) ?_)
      refine bodyPost_ret (rgn.result_row_tmp rfl _ _ w.heap.size 0 [.int .i64 4, .string t.va, .bool true, .slice none 0 0, .slice none 0 0, .int .i64 t.ln, .int .i64 t.co] _ rfl (World.rangeAt_setCells_same _ _ _ _ ((unhide HT) _)) Tryz.underlying32 rfl infoLt) rfl ?_
      rw [unhide hs2]
      exact ⟨_, [], rfl, ⟨leaf_shape 4 t.va true t.ln t.co, leaf_ow _ 4 t.va true t.ln t.co, List.nodup_nil, by simp⟩, ((unhide HC).below ((Below.refl _ _).alloc (Nat.le_refl _) _)).out hne hnp _ _, ((unhide HK).trans (Kp.of ((Below.refl _ _).alloc (Nat.le_refl _) _))).out (Nat.le_refl _) _ _⟩
    have e7 : (t.k == 7) = false := by simpa using h7
    by_cases h3 : t.k = 3
    · have e3 : (t.k == 3) = true := by simpa using h3
      have hmm := hm 3 h3 (by decide) (by decide)
      have hwd := hide (fun s W bb => (unhide hwd) s W bb hmm)
      have hs2 := hide (show litS L ct c = (some (wordD t), c.take) from by rw [unhide hSS, if_neg h4, if_neg h5, if_neg (fun e => e.elim h6 h7), if_pos h3])
      clear h4 h5 h6 h7 h3 hm hSS hmm
      go_enter Tryz.func11, Tryz.ntmps11
      go_wp2_with fail
      refine ((unhide hd) _ ((unhide bA) _)).mono ?_
      rintro e w1 ⟨rfl, rfl⟩
      go_wp2_with fail
      refine ((unhide ht) _ ((unhide bA) _)).mono ?_
      rintro e w1 ⟨rfl, b1⟩
      have bw1 := ((unhide bA) _).trans (b1.mono ((unhide bA) _).size)
      have bw2 := fun o => bw1.alloc bw1.size o
      go_wp2_with fail
      refine ((unhide hwd) t.tx _ (bw2 _)).mono ?_
      rintro e w2 ⟨rfl, hc2, hk2⟩
      have hk02 := (Kp.of b1).trans ((Kp.of ((Below.refl _ _).alloc (Nat.le_refl _) _)).trans hk2)
      have hR2 := (unhide hZ) _ w2 hk02
      have HT := hide (dt.there_cells hR2 (o := 0) (n := 7) (by decide))
      have HK := hide ((Kp.of ((unhide bA) _)).trans hk02)
      have HC := hide hc2
      obtain ⟨kk, tt, hwc, hwD⟩ := word_form t
      rw [hwc]
      rw [hwD] at hs2
      clear hl hwd hvr hls hob hip hrf ht hd hk2 hk02 hc2 hZ bA hR2 bw1 bw2
      unfold leafC
      go_wp2_with (first
        | refine wpList_store_mid (by rfl) 32 _ _ (by rfl) w.heap.size 0 #[.int .i64 kk, .string tt, .bool false, .slice none 0 0, .slice none 0 0, .int .i64 t.ln, .int .i64 t.co] (by rfl) (by rfl) (unhide HT) infoLt (dt.one_cells (cs := [.int .i64 kk, .string tt, .bool false, .slice none 0 0, .slice none 0 0, .int .i64 t.ln, .int .i64 t.co]) (by rfl)) ?_)
      refine bodyPost_ret (rgn.result_row_tmp rfl _ _ w.heap.size 0 [.int .i64 kk, .string tt, .bool false, .slice none 0 0, .slice none 0 0, .int .i64 t.ln, .int .i64 t.co] _ rfl (World.rangeAt_setCells_same _ _ _ _ (unhide HT)) Tryz.underlying32 rfl infoLt) rfl ?_
      rw [unhide hs2]
      exact ⟨_, [], rfl, ⟨leaf_shape kk tt false t.ln t.co, leaf_ow _ kk tt false t.ln t.co, List.nodup_nil, by simp⟩, (unhide HC).out hne hnp _ _, (unhide HK).out (Nat.le_refl _) _ _⟩
    have e3 : (t.k == 3) = false := by simpa using h3
    have hS2 := hide (show litS L ct c = (if c.isP bDol ∧ ct = false then varS c else if c.isP bLb then listS L c else if c.isP bLc then objS L c else (none, c.stop 70)) from by rw [unhide hSS, if_neg h4, if_neg h5, if_neg (fun e => e.elim h6 h7), if_neg h3])
    clear h4 h5 h6 h7 h3 hm hSS hl hwd
    cases hP1 : c.isP bDol
    · cases ct
      · cases hP2 : c.isP bLb
        · cases hP3 : c.isP bLc
          · have hs2 := hide (show litS L false c = (none, c.stop 70) from by rw [unhide hS2, if_neg (fun e => by rw [hP1] at e; exact absurd e.1 (by simp)), if_neg (by rw [hP2]; simp), if_neg (by rw [hP3]; simp)])
            clear hS2
            go_enter Tryz.func11, Tryz.ntmps11
            go_wp2_with fail
            refine ((unhide hd) _ ((unhide bA) _)).mono ?_
            rintro e w1 ⟨rfl, rfl⟩
            go_wp2_with fail
            refine ((unhide ht) _ ((unhide bA) _)).mono ?_
            rintro e w1 ⟨rfl, b1⟩
            have bw1 := ((unhide bA) _).trans (b1.mono ((unhide bA) _).size)
            have c2 := b1.alloc b1.size (.cells #[.int .i64 t.k, .int .i64 t.ln, .int .i64 t.co, .int .i64 t.fr, .int .i64 t.to, .string t.tx, .string t.va] 70)
            have bw2 := ((unhide bA) _).trans (c2.mono ((unhide bA) _).size)
            go_wp2_with fail
            refine ((unhide hip) bDol _ bw2).mono ?_
            rintro e w3 ⟨rfl, b3⟩
            rw [hP1]
            have c3 := c2.trans (b3.mono c2.size)
            have bw3 := ((unhide bA) _).trans (c3.mono ((unhide bA) _).size)
            go_wp2_with fail
            refine ((unhide hip) bLb _ bw3).mono ?_
            rintro e w4 ⟨rfl, b4⟩
            rw [hP2]
            have c4 := c3.trans (b4.mono c3.size)
            have bw4 := ((unhide bA) _).trans (c4.mono ((unhide bA) _).size)
            go_wp2_with fail
            refine ((unhide hip) bLc _ bw4).mono ?_
            rintro e w5 ⟨rfl, b5⟩
            rw [hP3]
            have c5 := c4.trans (b5.mono c4.size)
            have bw5 := ((unhide bA) _).trans (c5.mono ((unhide bA) _).size)
            go_wp2_with fail
            refine ((unhide hrf) _ bw5).mono ?_
            rintro e w9 ⟨rfl, hc9, hk9⟩
            have hk09 := (Kp.of c5).trans hk9
            have hR9 := (unhide hZ) _ w9 hk09
            have HT := hide (dt.there_cells hR9 (o := 0) (n := 7) (by decide))
            have HK := hide ((Kp.of ((unhide bA) _)).trans hk09)
            have HC := hide hc9
            clear hvr hls hob hip hrf ht hd hk9 hk09 hc9 hZ bA hR9
            go_wp2_with (first
              | refine wpList_store_mid (by rfl) 32 _ _ (by rfl) w.heap.size 0 #[.int .i64 0, .string ⟨#[]⟩, .bool false, .slice none 0 0, .slice none 0 0, .int .i64 0, .int .i64 0] (by rfl) (by rfl) (unhide HT) infoLt (dt.one_cells (cs := [.int .i64 0, .string ⟨#[]⟩, .bool false, .slice none 0 0, .slice none 0 0, .int .i64 0, .int .i64 0]) (by rfl)) ?_)
            refine bodyPost_ret (rgn.result_row_tmp rfl _ _ w.heap.size 0 [.int .i64 0, .string ⟨#[]⟩, .bool false, .slice none 0 0, .slice none 0 0, .int .i64 0, .int .i64 0] _ rfl (World.rangeAt_setCells_same _ _ _ _ (unhide HT)) Tryz.underlying32 rfl infoLt) rfl ?_
            rw [unhide hs2]
            exact ⟨_, [], rfl, ⟨leaf_shape 0 em false 0 0, leaf_ow _ 0 em false 0 0, List.nodup_nil, by simp⟩, (unhide HC).out hne hnp _ _, (unhide HK).out (Nat.le_refl _) _ _⟩
          · have hs2 := hide (show litS L false c = objS L c from by rw [unhide hS2, if_neg (fun e => by rw [hP1] at e; exact absurd e.1 (by simp)), if_neg (by rw [hP2]; simp), if_pos hP3])
            clear hS2
            go_enter Tryz.func11, Tryz.ntmps11
            go_wp2_with fail
            refine ((unhide hd) _ ((unhide bA) _)).mono ?_
            rintro e w1 ⟨rfl, rfl⟩
            go_wp2_with fail
            refine ((unhide ht) _ ((unhide bA) _)).mono ?_
            rintro e w1 ⟨rfl, b1⟩
            have bw1 := ((unhide bA) _).trans (b1.mono ((unhide bA) _).size)
            have c2 := b1.alloc b1.size (.cells #[.int .i64 t.k, .int .i64 t.ln, .int .i64 t.co, .int .i64 t.fr, .int .i64 t.to, .string t.tx, .string t.va] 70)
            have bw2 := ((unhide bA) _).trans (c2.mono ((unhide bA) _).size)
            go_wp2_with fail
            refine ((unhide hip) bDol _ bw2).mono ?_
            rintro e w3 ⟨rfl, b3⟩
            rw [hP1]
            have c3 := c2.trans (b3.mono c2.size)
            have bw3 := ((unhide bA) _).trans (c3.mono ((unhide bA) _).size)
            go_wp2_with fail
            refine ((unhide hip) bLb _ bw3).mono ?_
            rintro e w4 ⟨rfl, b4⟩
            rw [hP2]
            have c4 := c3.trans (b4.mono c3.size)
            have bw4 := ((unhide bA) _).trans (c4.mono ((unhide bA) _).size)
            go_wp2_with fail
            refine ((unhide hip) bLc _ bw4).mono ?_
            rintro e w5 ⟨rfl, b5⟩
            rw [hP3]
            have c5 := c4.trans (b5.mono c4.size)
            have bw5 := ((unhide bA) _).trans (c5.mono ((unhide bA) _).size)
            go_wp2_with fail
            refine ((unhide hob) _ bw5).mono ?_
            rintro e w9 ⟨cs, F, rfl, hpo, hc9, hk9⟩
            obtain ⟨kk, tt, bl, ai, ni, ci, af, nf, cf, ln, co, rfl⟩ := hpo.shape
            have hk09 := (Kp.of c5).trans hk9
            have hR9 := (unhide hZ) _ w9 hk09
            have HT := hide (dt.there_cells hR9 (o := 0) (n := 7) (by decide))
            have HK := hide ((Kp.of ((unhide bA) _)).trans hk09)
            have HC := hide hc9
            have HP := hide hpo
            have hlo := hide (show w.heap.size < w5.heap.size from by have := c5.size; simp at this; omega)
            clear hvr hls hob hip hrf ht hd hk9 hk09 hc9 hZ bA hR9 hpo
            go_wp2_with (first
              | refine wpList_store_mid (by rfl) 32 _ _ (by rfl) w.heap.size 0 #[.int .i64 kk, .string tt, .bool bl, .slice ai ni ci, .slice af nf cf, .int .i64 ln, .int .i64 co] (by rfl) (by rfl) (unhide HT) infoLt (dt.one_cells (cs := [.int .i64 kk, .string tt, .bool bl, .slice ai ni ci, .slice af nf cf, .int .i64 ln, .int .i64 co]) (by rfl)) ?_)
            refine bodyPost_ret (rgn.result_row_tmp rfl _ _ w.heap.size 0 [.int .i64 kk, .string tt, .bool bl, .slice ai ni ci, .slice af nf cf, .int .i64 ln, .int .i64 co] _ rfl (World.rangeAt_setCells_same _ _ _ _ (unhide HT)) Tryz.underlying32 rfl infoLt) rfl ?_
            rw [unhide hs2]
            exact ⟨_, F, rfl, ⟨(unhide HP).shape, ow_out (unhide HP).own (fun hm => by have := ((unhide HP).rng _ hm).1; have := unhide hlo; omega) _ _, (unhide HP).nodup, fun b hb => ⟨by have := ((unhide HP).rng b hb).1; have := unhide hlo; omega, by rw [dt.size_setCells]; exact ((unhide HP).rng b hb).2⟩⟩, (unhide HC).out hne hnp _ _, (unhide HK).out (Nat.le_refl _) _ _⟩
        · have hs2 := hide (show litS L false c = listS L c from by rw [unhide hS2, if_neg (fun e => by rw [hP1] at e; exact absurd e.1 (by simp)), if_pos hP2])
          clear hS2
          go_enter Tryz.func11, Tryz.ntmps11
          go_wp2_with fail
          refine ((unhide hd) _ ((unhide bA) _)).mono ?_
          rintro e w1 ⟨rfl, rfl⟩
          go_wp2_with fail
          refine ((unhide ht) _ ((unhide bA) _)).mono ?_
          rintro e w1 ⟨rfl, b1⟩
          have bw1 := ((unhide bA) _).trans (b1.mono ((unhide bA) _).size)
          have c2 := b1.alloc b1.size (.cells #[.int .i64 t.k, .int .i64 t.ln, .int .i64 t.co, .int .i64 t.fr, .int .i64 t.to, .string t.tx, .string t.va] 70)
          have bw2 := ((unhide bA) _).trans (c2.mono ((unhide bA) _).size)
          go_wp2_with fail
          refine ((unhide hip) bDol _ bw2).mono ?_
          rintro e w3 ⟨rfl, b3⟩
          rw [hP1]
          have c3 := c2.trans (b3.mono c2.size)
          have bw3 := ((unhide bA) _).trans (c3.mono ((unhide bA) _).size)
          go_wp2_with fail
          refine ((unhide hip) bLb _ bw3).mono ?_
          rintro e w4 ⟨rfl, b4⟩
          rw [hP2]
          have c4 := c3.trans (b4.mono c3.size)
          have bw4 := ((unhide bA) _).trans (c4.mono ((unhide bA) _).size)
          go_wp2_with fail
          refine ((unhide hls) _ bw4).mono ?_
          rintro e w9 ⟨cs, F, rfl, hpo, hc9, hk9⟩
          obtain ⟨kk, tt, bl, ai, ni, ci, af, nf, cf, ln, co, rfl⟩ := hpo.shape
          have hk09 := (Kp.of c4).trans hk9
          have hR9 := (unhide hZ) _ w9 hk09
          have HT := hide (dt.there_cells hR9 (o := 0) (n := 7) (by decide))
          have HK := hide ((Kp.of ((unhide bA) _)).trans hk09)
          have HC := hide hc9
          have HP := hide hpo
          have hlo := hide (show w.heap.size < w4.heap.size from by have := c4.size; simp at this; omega)
          clear hvr hls hob hip hrf ht hd hk9 hk09 hc9 hZ bA hR9 hpo
          go_wp2_with (first
            | refine wpList_store_mid (by rfl) 32 _ _ (by rfl) w.heap.size 0 #[.int .i64 kk, .string tt, .bool bl, .slice ai ni ci, .slice af nf cf, .int .i64 ln, .int .i64 co] (by rfl) (by rfl) (unhide HT) infoLt (dt.one_cells (cs := [.int .i64 kk, .string tt, .bool bl, .slice ai ni ci, .slice af nf cf, .int .i64 ln, .int .i64 co]) (by rfl)) ?_)
          refine bodyPost_ret (rgn.result_row_tmp rfl _ _ w.heap.size 0 [.int .i64 kk, .string tt, .bool bl, .slice ai ni ci, .slice af nf cf, .int .i64 ln, .int .i64 co] _ rfl (World.rangeAt_setCells_same _ _ _ _ (unhide HT)) Tryz.underlying32 rfl infoLt) rfl ?_
          rw [unhide hs2]
          exact ⟨_, F, rfl, ⟨(unhide HP).shape, ow_out (unhide HP).own (fun hm => by have := ((unhide HP).rng _ hm).1; have := unhide hlo; omega) _ _, (unhide HP).nodup, fun b hb => ⟨by have := ((unhide HP).rng b hb).1; have := unhide hlo; omega, by rw [dt.size_setCells]; exact ((unhide HP).rng b hb).2⟩⟩, (unhide HC).out hne hnp _ _, (unhide HK).out (Nat.le_refl _) _ _⟩
      · cases hP2 : c.isP bLb
        · cases hP3 : c.isP bLc
          · have hs2 := hide (show litS L true c = (none, c.stop 70) from by rw [unhide hS2, if_neg (fun e => by rw [hP1] at e; exact absurd e.1 (by simp)), if_neg (by rw [hP2]; simp), if_neg (by rw [hP3]; simp)])
            clear hS2
            go_enter Tryz.func11, Tryz.ntmps11
            go_wp2_with fail
            refine ((unhide hd) _ ((unhide bA) _)).mono ?_
            rintro e w1 ⟨rfl, rfl⟩
            go_wp2_with fail
            refine ((unhide ht) _ ((unhide bA) _)).mono ?_
            rintro e w1 ⟨rfl, b1⟩
            have bw1 := ((unhide bA) _).trans (b1.mono ((unhide bA) _).size)
            have c2 := b1.alloc b1.size (.cells #[.int .i64 t.k, .int .i64 t.ln, .int .i64 t.co, .int .i64 t.fr, .int .i64 t.to, .string t.tx, .string t.va] 70)
            have bw2 := ((unhide bA) _).trans (c2.mono ((unhide bA) _).size)
            go_wp2_with fail
            refine ((unhide hip) bDol _ bw2).mono ?_
            rintro e w3 ⟨rfl, b3⟩
            rw [hP1]
            have c3 := c2.trans (b3.mono c2.size)
            have bw3 := ((unhide bA) _).trans (c3.mono ((unhide bA) _).size)
            go_wp2_with fail
            refine ((unhide hip) bLb _ bw3).mono ?_
            rintro e w4 ⟨rfl, b4⟩
            rw [hP2]
            have c4 := c3.trans (b4.mono c3.size)
            have bw4 := ((unhide bA) _).trans (c4.mono ((unhide bA) _).size)
            go_wp2_with fail
            refine ((unhide hip) bLc _ bw4).mono ?_
            rintro e w5 ⟨rfl, b5⟩
            rw [hP3]
            have c5 := c4.trans (b5.mono c4.size)
            have bw5 := ((unhide bA) _).trans (c5.mono ((unhide bA) _).size)
            go_wp2_with fail
            refine ((unhide hrf) _ bw5).mono ?_
            rintro e w9 ⟨rfl, hc9, hk9⟩
            have hk09 := (Kp.of c5).trans hk9
            have hR9 := (unhide hZ) _ w9 hk09
            have HT := hide (dt.there_cells hR9 (o := 0) (n := 7) (by decide))
            have HK := hide ((Kp.of ((unhide bA) _)).trans hk09)
            have HC := hide hc9
            clear hvr hls hob hip hrf ht hd hk9 hk09 hc9 hZ bA hR9
            go_wp2_with (first
              | refine wpList_store_mid (by rfl) 32 _ _ (by rfl) w.heap.size 0 #[.int .i64 0, .string ⟨#[]⟩, .bool false, .slice none 0 0, .slice none 0 0, .int .i64 0, .int .i64 0] (by rfl) (by rfl) (unhide HT) infoLt (dt.one_cells (cs := [.int .i64 0, .string ⟨#[]⟩, .bool false, .slice none 0 0, .slice none 0 0, .int .i64 0, .int .i64 0]) (by rfl)) ?_)
            refine bodyPost_ret (rgn.result_row_tmp rfl _ _ w.heap.size 0 [.int .i64 0, .string ⟨#[]⟩, .bool false, .slice none 0 0, .slice none 0 0, .int .i64 0, .int .i64 0] _ rfl (World.rangeAt_setCells_same _ _ _ _ (unhide HT)) Tryz.underlying32 rfl infoLt) rfl ?_
            rw [unhide hs2]
            exact ⟨_, [], rfl, ⟨leaf_shape 0 em false 0 0, leaf_ow _ 0 em false 0 0, List.nodup_nil, by simp⟩, (unhide HC).out hne hnp _ _, (unhide HK).out (Nat.le_refl _) _ _⟩
          · have hs2 := hide (show litS L true c = objS L c from by rw [unhide hS2, if_neg (fun e => by rw [hP1] at e; exact absurd e.1 (by simp)), if_neg (by rw [hP2]; simp), if_pos hP3])
            clear hS2
            go_enter Tryz.func11, Tryz.ntmps11
            go_wp2_with fail
            refine ((unhide hd) _ ((unhide bA) _)).mono ?_
            rintro e w1 ⟨rfl, rfl⟩
            go_wp2_with fail
            refine ((unhide ht) _ ((unhide bA) _)).mono ?_
            rintro e w1 ⟨rfl, b1⟩
            have bw1 := ((unhide bA) _).trans (b1.mono ((unhide bA) _).size)
            have c2 := b1.alloc b1.size (.cells #[.int .i64 t.k, .int .i64 t.ln, .int .i64 t.co, .int .i64 t.fr, .int .i64 t.to, .string t.tx, .string t.va] 70)
            have bw2 := ((unhide bA) _).trans (c2.mono ((unhide bA) _).size)
            go_wp2_with fail
            refine ((unhide hip) bDol _ bw2).mono ?_
            rintro e w3 ⟨rfl, b3⟩
            rw [hP1]
            have c3 := c2.trans (b3.mono c2.size)
            have bw3 := ((unhide bA) _).trans (c3.mono ((unhide bA) _).size)
            go_wp2_with fail
            refine ((unhide hip) bLb _ bw3).mono ?_
            rintro e w4 ⟨rfl, b4⟩
            rw [hP2]
            have c4 := c3.trans (b4.mono c3.size)
            have bw4 := ((unhide bA) _).trans (c4.mono ((unhide bA) _).size)
            go_wp2_with fail
            refine ((unhide hip) bLc _ bw4).mono ?_
            rintro e w5 ⟨rfl, b5⟩
            rw [hP3]
            have c5 := c4.trans (b5.mono c4.size)
            have bw5 := ((unhide bA) _).trans (c5.mono ((unhide bA) _).size)
            go_wp2_with fail
            refine ((unhide hob) _ bw5).mono ?_
            rintro e w9 ⟨cs, F, rfl, hpo, hc9, hk9⟩
            obtain ⟨kk, tt, bl, ai, ni, ci, af, nf, cf, ln, co, rfl⟩ := hpo.shape
            have hk09 := (Kp.of c5).trans hk9
            have hR9 := (unhide hZ) _ w9 hk09
            have HT := hide (dt.there_cells hR9 (o := 0) (n := 7) (by decide))
            have HK := hide ((Kp.of ((unhide bA) _)).trans hk09)
            have HC := hide hc9
            have HP := hide hpo
            have hlo := hide (show w.heap.size < w5.heap.size from by have := c5.size; simp at this; omega)
            clear hvr hls hob hip hrf ht hd hk9 hk09 hc9 hZ bA hR9 hpo
            go_wp2_with (first
              | refine wpList_store_mid (by rfl) 32 _ _ (by rfl) w.heap.size 0 #[.int .i64 kk, .string tt, .bool bl, .slice ai ni ci, .slice af nf cf, .int .i64 ln, .int .i64 co] (by rfl) (by rfl) (unhide HT) infoLt (dt.one_cells (cs := [.int .i64 kk, .string tt, .bool bl, .slice ai ni ci, .slice af nf cf, .int .i64 ln, .int .i64 co]) (by rfl)) ?_)
            refine bodyPost_ret (rgn.result_row_tmp rfl _ _ w.heap.size 0 [.int .i64 kk, .string tt, .bool bl, .slice ai ni ci, .slice af nf cf, .int .i64 ln, .int .i64 co] _ rfl (World.rangeAt_setCells_same _ _ _ _ (unhide HT)) Tryz.underlying32 rfl infoLt) rfl ?_
            rw [unhide hs2]
            exact ⟨_, F, rfl, ⟨(unhide HP).shape, ow_out (unhide HP).own (fun hm => by have := ((unhide HP).rng _ hm).1; have := unhide hlo; omega) _ _, (unhide HP).nodup, fun b hb => ⟨by have := ((unhide HP).rng b hb).1; have := unhide hlo; omega, by rw [dt.size_setCells]; exact ((unhide HP).rng b hb).2⟩⟩, (unhide HC).out hne hnp _ _, (unhide HK).out (Nat.le_refl _) _ _⟩
        · have hs2 := hide (show litS L true c = listS L c from by rw [unhide hS2, if_neg (fun e => by rw [hP1] at e; exact absurd e.1 (by simp)), if_pos hP2])
          clear hS2
          go_enter Tryz.func11, Tryz.ntmps11
          go_wp2_with fail
          refine ((unhide hd) _ ((unhide bA) _)).mono ?_
          rintro e w1 ⟨rfl, rfl⟩
          go_wp2_with fail
          refine ((unhide ht) _ ((unhide bA) _)).mono ?_
          rintro e w1 ⟨rfl, b1⟩
          have bw1 := ((unhide bA) _).trans (b1.mono ((unhide bA) _).size)
          have c2 := b1.alloc b1.size (.cells #[.int .i64 t.k, .int .i64 t.ln, .int .i64 t.co, .int .i64 t.fr, .int .i64 t.to, .string t.tx, .string t.va] 70)
          have bw2 := ((unhide bA) _).trans (c2.mono ((unhide bA) _).size)
          go_wp2_with fail
          refine ((unhide hip) bDol _ bw2).mono ?_
          rintro e w3 ⟨rfl, b3⟩
          rw [hP1]
          have c3 := c2.trans (b3.mono c2.size)
          have bw3 := ((unhide bA) _).trans (c3.mono ((unhide bA) _).size)
          go_wp2_with fail
          refine ((unhide hip) bLb _ bw3).mono ?_
          rintro e w4 ⟨rfl, b4⟩
          rw [hP2]
          have c4 := c3.trans (b4.mono c3.size)
          have bw4 := ((unhide bA) _).trans (c4.mono ((unhide bA) _).size)
          go_wp2_with fail
          refine ((unhide hls) _ bw4).mono ?_
          rintro e w9 ⟨cs, F, rfl, hpo, hc9, hk9⟩
          obtain ⟨kk, tt, bl, ai, ni, ci, af, nf, cf, ln, co, rfl⟩ := hpo.shape
          have hk09 := (Kp.of c4).trans hk9
          have hR9 := (unhide hZ) _ w9 hk09
          have HT := hide (dt.there_cells hR9 (o := 0) (n := 7) (by decide))
          have HK := hide ((Kp.of ((unhide bA) _)).trans hk09)
          have HC := hide hc9
          have HP := hide hpo
          have hlo := hide (show w.heap.size < w4.heap.size from by have := c4.size; simp at this; omega)
          clear hvr hls hob hip hrf ht hd hk9 hk09 hc9 hZ bA hR9 hpo
          go_wp2_with (first
            | refine wpList_store_mid (by rfl) 32 _ _ (by rfl) w.heap.size 0 #[.int .i64 kk, .string tt, .bool bl, .slice ai ni ci, .slice af nf cf, .int .i64 ln, .int .i64 co] (by rfl) (by rfl) (unhide HT) infoLt (dt.one_cells (cs := [.int .i64 kk, .string tt, .bool bl, .slice ai ni ci, .slice af nf cf, .int .i64 ln, .int .i64 co]) (by rfl)) ?_)
          refine bodyPost_ret (rgn.result_row_tmp rfl _ _ w.heap.size 0 [.int .i64 kk, .string tt, .bool bl, .slice ai ni ci, .slice af nf cf, .int .i64 ln, .int .i64 co] _ rfl (World.rangeAt_setCells_same _ _ _ _ (unhide HT)) Tryz.underlying32 rfl infoLt) rfl ?_
          rw [unhide hs2]
          exact ⟨_, F, rfl, ⟨(unhide HP).shape, ow_out (unhide HP).own (fun hm => by have := ((unhide HP).rng _ hm).1; have := unhide hlo; omega) _ _, (unhide HP).nodup, fun b hb => ⟨by have := ((unhide HP).rng b hb).1; have := unhide hlo; omega, by rw [dt.size_setCells]; exact ((unhide HP).rng b hb).2⟩⟩, (unhide HC).out hne hnp _ _, (unhide HK).out (Nat.le_refl _) _ _⟩
    · cases ct
      · have hs2 := hide (show litS L false c = varS c from by rw [unhide hS2, if_pos ⟨hP1, rfl⟩])
        clear hS2
        go_enter Tryz.func11, Tryz.ntmps11
        go_wp2_with fail
        refine ((unhide hd) _ ((unhide bA) _)).mono ?_
        rintro e w1 ⟨rfl, rfl⟩
        go_wp2_with fail
        refine ((unhide ht) _ ((unhide bA) _)).mono ?_
        rintro e w1 ⟨rfl, b1⟩
        have bw1 := ((unhide bA) _).trans (b1.mono ((unhide bA) _).size)
        have c2 := b1.alloc b1.size (.cells #[.int .i64 t.k, .int .i64 t.ln, .int .i64 t.co, .int .i64 t.fr, .int .i64 t.to, .string t.tx, .string t.va] 70)
        have bw2 := ((unhide bA) _).trans (c2.mono ((unhide bA) _).size)
        go_wp2_with fail
        refine ((unhide hip) bDol _ bw2).mono ?_
        rintro e w3 ⟨rfl, b3⟩
        rw [hP1]
        have c3 := c2.trans (b3.mono c2.size)
        have bw3 := ((unhide bA) _).trans (c3.mono ((unhide bA) _).size)
        go_wp2_with fail
        refine ((unhide hvr) _ bw3 ((unhide hmP) bDol hP1)).mono ?_
        rintro e w9 ⟨rfl, hc9, hk9⟩
        obtain ⟨d, v1, v2, v3, kk, tt, ln, co, v4, v5⟩ := var_post c
        have hk09 := (Kp.of c3).trans hk9
        have hR9 := (unhide hZ) _ w9 hk09
        have HT := hide (dt.there_cells hR9 (o := 0) (n := 7) (by decide))
        have HK := hide ((Kp.of ((unhide bA) _)).trans hk09)
        have HC := hide hc9
        have HV := hide (And.intro v1 (And.intro v2 (And.intro v3 v5)))
        rw [v4]
        unfold leafC
        clear hvr hls hob hip hrf ht hd hk9 hk09 hc9 hZ bA hR9 v1 v2 v3 v4 v5
        obtain ⟨R, hR⟩ : ∃ R, R = c.take.isN := ⟨_, rfl⟩
        rw [← hR] at HV ⊢
        clear hR
        go_wp2_with (first
          | refine wpList_store_mid (by rfl) 32 _ _ (by rfl) w.heap.size 0 #[.int .i64 kk, .string tt, .bool false, .slice none 0 0, .slice none 0 0, .int .i64 ln, .int .i64 co] (by rfl) (by rfl) (unhide HT) infoLt (dt.one_cells (cs := [.int .i64 kk, .string tt, .bool false, .slice none 0 0, .slice none 0 0, .int .i64 ln, .int .i64 co]) (by rfl)) ?_)
        refine bodyPost_ret (rgn.result_row_tmp rfl _ _ w.heap.size 0 [.int .i64 kk, .string tt, .bool false, .slice none 0 0, .slice none 0 0, .int .i64 ln, .int .i64 co] _ rfl (World.rangeAt_setCells_same _ _ _ _ (unhide HT)) Tryz.underlying32 rfl infoLt) rfl ?_
        rw [unhide hs2]
        obtain ⟨v1, v2, v3, v5⟩ := unhide HV
        rw [v1, v2, v3, v5]
        exact ⟨_, [], rfl, ⟨leaf_shape kk tt false ln co, leaf_ow _ kk tt false ln co, List.nodup_nil, by simp⟩, (unhide HC).out hne hnp _ _, (unhide HK).out (Nat.le_refl _) _ _⟩
      · cases hP2 : c.isP bLb
        · cases hP3 : c.isP bLc
          · have hs2 := hide (show litS L true c = (none, c.stop 70) from by rw [unhide hS2, if_neg (fun e => by exact absurd e.2 (by simp)), if_neg (by rw [hP2]; simp), if_neg (by rw [hP3]; simp)])
            clear hS2
            go_enter Tryz.func11, Tryz.ntmps11
            go_wp2_with fail
            refine ((unhide hd) _ ((unhide bA) _)).mono ?_
            rintro e w1 ⟨rfl, rfl⟩
            go_wp2_with fail
            refine ((unhide ht) _ ((unhide bA) _)).mono ?_
            rintro e w1 ⟨rfl, b1⟩
            have bw1 := ((unhide bA) _).trans (b1.mono ((unhide bA) _).size)
            have c2 := b1.alloc b1.size (.cells #[.int .i64 t.k, .int .i64 t.ln, .int .i64 t.co, .int .i64 t.fr, .int .i64 t.to, .string t.tx, .string t.va] 70)
            have bw2 := ((unhide bA) _).trans (c2.mono ((unhide bA) _).size)
            go_wp2_with fail
            refine ((unhide hip) bDol _ bw2).mono ?_
            rintro e w3 ⟨rfl, b3⟩
            rw [hP1]
            have c3 := c2.trans (b3.mono c2.size)
            have bw3 := ((unhide bA) _).trans (c3.mono ((unhide bA) _).size)
            go_wp2_with fail
            refine ((unhide hip) bLb _ bw3).mono ?_
            rintro e w4 ⟨rfl, b4⟩
            rw [hP2]
            have c4 := c3.trans (b4.mono c3.size)
            have bw4 := ((unhide bA) _).trans (c4.mono ((unhide bA) _).size)
            go_wp2_with fail
            refine ((unhide hip) bLc _ bw4).mono ?_
            rintro e w5 ⟨rfl, b5⟩
            rw [hP3]
            have c5 := c4.trans (b5.mono c4.size)
            have bw5 := ((unhide bA) _).trans (c5.mono ((unhide bA) _).size)
            go_wp2_with fail
            refine ((unhide hrf) _ bw5).mono ?_
            rintro e w9 ⟨rfl, hc9, hk9⟩
            have hk09 := (Kp.of c5).trans hk9
            have hR9 := (unhide hZ) _ w9 hk09
            have HT := hide (dt.there_cells hR9 (o := 0) (n := 7) (by decide))
            have HK := hide ((Kp.of ((unhide bA) _)).trans hk09)
            have HC := hide hc9
            clear hvr hls hob hip hrf ht hd hk9 hk09 hc9 hZ bA hR9
            go_wp2_with (first
              | refine wpList_store_mid (by rfl) 32 _ _ (by rfl) w.heap.size 0 #[.int .i64 0, .string ⟨#[]⟩, .bool false, .slice none 0 0, .slice none 0 0, .int .i64 0, .int .i64 0] (by rfl) (by rfl) (unhide HT) infoLt (dt.one_cells (cs := [.int .i64 0, .string ⟨#[]⟩, .bool false, .slice none 0 0, .slice none 0 0, .int .i64 0, .int .i64 0]) (by rfl)) ?_)
            refine bodyPost_ret (rgn.result_row_tmp rfl _ _ w.heap.size 0 [.int .i64 0, .string ⟨#[]⟩, .bool false, .slice none 0 0, .slice none 0 0, .int .i64 0, .int .i64 0] _ rfl (World.rangeAt_setCells_same _ _ _ _ (unhide HT)) Tryz.underlying32 rfl infoLt) rfl ?_
            rw [unhide hs2]
            exact ⟨_, [], rfl, ⟨leaf_shape 0 em false 0 0, leaf_ow _ 0 em false 0 0, List.nodup_nil, by simp⟩, (unhide HC).out hne hnp _ _, (unhide HK).out (Nat.le_refl _) _ _⟩
          · have hs2 := hide (show litS L true c = objS L c from by rw [unhide hS2, if_neg (fun e => by exact absurd e.2 (by simp)), if_neg (by rw [hP2]; simp), if_pos hP3])
            clear hS2
            go_enter Tryz.func11, Tryz.ntmps11
            go_wp2_with fail
            refine ((unhide hd) _ ((unhide bA) _)).mono ?_
            rintro e w1 ⟨rfl, rfl⟩
            go_wp2_with fail
            refine ((unhide ht) _ ((unhide bA) _)).mono ?_
            rintro e w1 ⟨rfl, b1⟩
            have bw1 := ((unhide bA) _).trans (b1.mono ((unhide bA) _).size)
            have c2 := b1.alloc b1.size (.cells #[.int .i64 t.k, .int .i64 t.ln, .int .i64 t.co, .int .i64 t.fr, .int .i64 t.to, .string t.tx, .string t.va] 70)
            have bw2 := ((unhide bA) _).trans (c2.mono ((unhide bA) _).size)
            go_wp2_with fail
            refine ((unhide hip) bDol _ bw2).mono ?_
            rintro e w3 ⟨rfl, b3⟩
            rw [hP1]
            have c3 := c2.trans (b3.mono c2.size)
            have bw3 := ((unhide bA) _).trans (c3.mono ((unhide bA) _).size)
            go_wp2_with fail
            refine ((unhide hip) bLb _ bw3).mono ?_
            rintro e w4 ⟨rfl, b4⟩
            rw [hP2]
            have c4 := c3.trans (b4.mono c3.size)
            have bw4 := ((unhide bA) _).trans (c4.mono ((unhide bA) _).size)
            go_wp2_with fail
            refine ((unhide hip) bLc _ bw4).mono ?_
            rintro e w5 ⟨rfl, b5⟩
            rw [hP3]
            have c5 := c4.trans (b5.mono c4.size)
            have bw5 := ((unhide bA) _).trans (c5.mono ((unhide bA) _).size)
            go_wp2_with fail
            refine ((unhide hob) _ bw5).mono ?_
            rintro e w9 ⟨cs, F, rfl, hpo, hc9, hk9⟩
            obtain ⟨kk, tt, bl, ai, ni, ci, af, nf, cf, ln, co, rfl⟩ := hpo.shape
            have hk09 := (Kp.of c5).trans hk9
            have hR9 := (unhide hZ) _ w9 hk09
            have HT := hide (dt.there_cells hR9 (o := 0) (n := 7) (by decide))
            have HK := hide ((Kp.of ((unhide bA) _)).trans hk09)
            have HC := hide hc9
            have HP := hide hpo
            have hlo := hide (show w.heap.size < w5.heap.size from by have := c5.size; simp at this; omega)
            clear hvr hls hob hip hrf ht hd hk9 hk09 hc9 hZ bA hR9 hpo
            go_wp2_with (first
              | refine wpList_store_mid (by rfl) 32 _ _ (by rfl) w.heap.size 0 #[.int .i64 kk, .string tt, .bool bl, .slice ai ni ci, .slice af nf cf, .int .i64 ln, .int .i64 co] (by rfl) (by rfl) (unhide HT) infoLt (dt.one_cells (cs := [.int .i64 kk, .string tt, .bool bl, .slice ai ni ci, .slice af nf cf, .int .i64 ln, .int .i64 co]) (by rfl)) ?_)
            refine bodyPost_ret (rgn.result_row_tmp rfl _ _ w.heap.size 0 [.int .i64 kk, .string tt, .bool bl, .slice ai ni ci, .slice af nf cf, .int .i64 ln, .int .i64 co] _ rfl (World.rangeAt_setCells_same _ _ _ _ (unhide HT)) Tryz.underlying32 rfl infoLt) rfl ?_
            rw [unhide hs2]
            exact ⟨_, F, rfl, ⟨(unhide HP).shape, ow_out (unhide HP).own (fun hm => by have := ((unhide HP).rng _ hm).1; have := unhide hlo; omega) _ _, (unhide HP).nodup, fun b hb => ⟨by have := ((unhide HP).rng b hb).1; have := unhide hlo; omega, by rw [dt.size_setCells]; exact ((unhide HP).rng b hb).2⟩⟩, (unhide HC).out hne hnp _ _, (unhide HK).out (Nat.le_refl _) _ _⟩
        · have hs2 := hide (show litS L true c = listS L c from by rw [unhide hS2, if_neg (fun e => by exact absurd e.2 (by simp)), if_pos hP2])
          clear hS2
          go_enter Tryz.func11, Tryz.ntmps11
          go_wp2_with fail
          refine ((unhide hd) _ ((unhide bA) _)).mono ?_
          rintro e w1 ⟨rfl, rfl⟩
          go_wp2_with fail
          refine ((unhide ht) _ ((unhide bA) _)).mono ?_
          rintro e w1 ⟨rfl, b1⟩
          have bw1 := ((unhide bA) _).trans (b1.mono ((unhide bA) _).size)
          have c2 := b1.alloc b1.size (.cells #[.int .i64 t.k, .int .i64 t.ln, .int .i64 t.co, .int .i64 t.fr, .int .i64 t.to, .string t.tx, .string t.va] 70)
          have bw2 := ((unhide bA) _).trans (c2.mono ((unhide bA) _).size)
          go_wp2_with fail
          refine ((unhide hip) bDol _ bw2).mono ?_
          rintro e w3 ⟨rfl, b3⟩
          rw [hP1]
          have c3 := c2.trans (b3.mono c2.size)
          have bw3 := ((unhide bA) _).trans (c3.mono ((unhide bA) _).size)
          go_wp2_with fail
          refine ((unhide hip) bLb _ bw3).mono ?_
          rintro e w4 ⟨rfl, b4⟩
          rw [hP2]
          have c4 := c3.trans (b4.mono c3.size)
          have bw4 := ((unhide bA) _).trans (c4.mono ((unhide bA) _).size)
          go_wp2_with fail
          refine ((unhide hls) _ bw4).mono ?_
          rintro e w9 ⟨cs, F, rfl, hpo, hc9, hk9⟩
          obtain ⟨kk, tt, bl, ai, ni, ci, af, nf, cf, ln, co, rfl⟩ := hpo.shape
          have hk09 := (Kp.of c4).trans hk9
          have hR9 := (unhide hZ) _ w9 hk09
          have HT := hide (dt.there_cells hR9 (o := 0) (n := 7) (by decide))
          have HK := hide ((Kp.of ((unhide bA) _)).trans hk09)
          have HC := hide hc9
          have HP := hide hpo
          have hlo := hide (show w.heap.size < w4.heap.size from by have := c4.size; simp at this; omega)
          clear hvr hls hob hip hrf ht hd hk9 hk09 hc9 hZ bA hR9 hpo
          go_wp2_with (first
            | refine wpList_store_mid (by rfl) 32 _ _ (by rfl) w.heap.size 0 #[.int .i64 kk, .string tt, .bool bl, .slice ai ni ci, .slice af nf cf, .int .i64 ln, .int .i64 co] (by rfl) (by rfl) (unhide HT) infoLt (dt.one_cells (cs := [.int .i64 kk, .string tt, .bool bl, .slice ai ni ci, .slice af nf cf, .int .i64 ln, .int .i64 co]) (by rfl)) ?_)
          refine bodyPost_ret (rgn.result_row_tmp rfl _ _ w.heap.size 0 [.int .i64 kk, .string tt, .bool bl, .slice ai ni ci, .slice af nf cf, .int .i64 ln, .int .i64 co] _ rfl (World.rangeAt_setCells_same _ _ _ _ (unhide HT)) Tryz.underlying32 rfl infoLt) rfl ?_
          rw [unhide hs2]
          exact ⟨_, F, rfl, ⟨(unhide HP).shape, ow_out (unhide HP).own (fun hm => by have := ((unhide HP).rng _ hm).1; have := unhide hlo; omega) _ _, (unhide HP).nodup, fun b hb => ⟨by have := ((unhide HP).rng b hb).1; have := unhide hlo; omega, by rw [dt.size_setCells]; exact ((unhide HP).rng b hb).2⟩⟩, (unhide HC).out hne hnp _ _, (unhide HK).out (Nat.le_refl _) _ _⟩
  · have ekd : (c.kd != 0) = true := by simpa using hkd
    have hs2 := hide (show litS L ct c = (none, c) from by unfold litS; rw [if_pos hkd])
    rw [ekd] at hd
    have HC := hide (h.below ((unhide bA) (.cells #[.int .i64 0, .string ⟨#[]⟩, .bool false, .slice none 0 0, .slice none 0 0, .int .i64 0, .int .i64 0] 32)))
    clear h hls' hob' hkd ekd ht hip hrf hls hob hZ
    unfold ptr at hd ⊢
    go_enter Tryz.func11, Tryz.ntmps11
    go_wp2_with fail
    refine ((unhide hd) _ ((unhide bA) _)).mono ?_
    rintro e w1 ⟨rfl, rfl⟩
    clear hd
    go_wp2_with fail
    refine bodyPost_ret (rgn.result_row_tmp rfl _ _ w.heap.size 0 [.int .i64 0, .string ⟨#[]⟩, .bool false, .slice none 0 0, .slice none 0 0, .int .i64 0, .int .i64 0] _ rfl (dt.range_cells (heap_alloc_new w _) 0 _ (fun j u hu => by rw [Nat.zero_add]; simpa using hu)) Tryz.underlying32 rfl infoLt) rfl ?_
    rw [unhide hs2]
    exact ⟨_, [], rfl, ⟨leaf_shape 0 em false 0 0, leaf_ow _ 0 em false 0 0, List.nodup_nil, by simp⟩, unhide HC, Kp.of ((unhide bA) _)⟩
end Go.Proofs.YtdmfbahnhkdamaaGreat.cu
namespace Go.Proofs.YtdmfbahnhkdamaaGreat.cu
open Go.ChangeShapes Go.WideShapes Go.ChangeAt Go.RowKit
open ints (hide unhide)
open dt (Dt Kp RowAt Ow Grow)
open mem (Row)
set_option linter.unusedVariables false
set_option linter.unusedSimpArgs false
theorem litF_dead (ct : Bool) : ∀ (f : Nat) (c : Cu), c.kd ≠ 0 → (litF ct f c).1 = none
  | 0, c, h => rfl
  | f + 1, c, h => by
    show (litS (litF ct f) ct c).1 = none
    unfold litS
    rw [if_pos h]
theorem dead_stop {c : Cu} (k : Int) (h : c.kd ≠ 0) : c.stop k = c := if_neg h
theorem name_dead (ct : Bool) (f : Nat) (c : Cu) (h : (litF ct f (c.name.want bCol)).1.isSome = true) : c.isN = true := by
  cases hN : c.isN
  · exfalso
    have h1 : c.name = c.stop 70 := by unfold Cu.name; rw [hN]; rfl
    have h2 : (c.stop 70).kd ≠ 0 := by
      unfold Cu.stop
      split
      · show (70 : Int) ≠ 0; decide
      · assumption
    have h3 : (c.stop 70).want bCol = c.stop 70 := by
      unfold Cu.want
      have : (c.stop 70).isP bCol = false := by unfold Cu.isP; simp [h2]
      rw [this]
      exact dead_stop 70 h2
    rw [h1, h3, litF_dead ct f _ h2] at h
    cases h
  · rfl
theorem litF_ok (ct : Bool) : ∀ (f : Nat) (c : Cu), c.Ok → c.ts.length ≤ 1099511627777 → c.ts.length ≤ f + c.ix → LitAt (litF ct f) ct c
  | 0, c, hc, hl, hf => by have := hc.lt; omega
  | f + 1, c, hc, hl, hf =>
    lit_ok (litF ct f) ct c hc
      (list_ok (litF ct f) ct c hc hl (litF_goes ct f) (fun cc h1 h2 h3 => litF_ok ct f cc h1 (by rw [h2]; exact hl) (by rw [h2]; omega)))
      (obj_ok (litF ct f) ct c hc hl (litF_goes ct f) (fun cc h1 h2 h3 => field_ok _ ct cc (arg_ok (litF ct f) ct cc h1
        (by
          have s1 := name_stp h1
          have s2 := want_stp s1.ok bCol
          have s := s1.trans s2
          exact litF_ok ct f (cc.name.want bCol) s.ok (by rw [s.ts, h2]; exact hl) (by rw [s.ts, h2]; have := s.ix; omega))
        (name_dead ct f cc))))
def readL (l : List Int) (ct : Bool) (d : Int) : Option Dt × Cu :=
  if (litF ct (lx.tks l 0).length (newS l d)).1.isSome then (if (litF ct (lx.tks l 0).length (newS l d)).2.finB then (litF ct (lx.tks l 0).length (newS l d)).1 else none, (litF ct (lx.tks l 0).length (newS l d)).2.fin) else (none, (litF ct (lx.tks l 0).length (newS l d)).2)
set_option maxRecDepth 4000 in
set_option maxHeartbeats 2000000 in
theorem readLit_ok (a : Option Addr) (n c : Nat) (l : List Int) (ct : Bool) (d : Int) (w : World) (h : Row .u8 w a n c l) (hn : n ≤ 1099511627776) (hp : lx.Plain l) (hd : (Lit.int .i64 d).wf = true) :
    Calls Tryz.prog 5 #[.slice a n c, .bool ct, .int .i64 d] w fun e w' => ∃ cs F fs, e = .returned (.tuple #[.agg cs.toArray, .agg fs.toArray]) ∧ LitPost ((readL l ct d).1.getD zeroD) w w' cs F ∧ FltAt w.heap.size w' (readL l ct d).2 fs ∧ Below w.heap.size w w' := by
  have hN := hide (fun W (bb : Below w.heap.size w W) => new_ok a n c l d W (h.below bb) hn hp hd)
  have hok := newS_ok l d
  have hlen : (newS l d).ts.length ≤ 1099511627777 := by
    have := tksF_len l (l.length + 1) 0 (Nat.zero_le _)
    show (lx.tksF l (l.length + 1) 0).length ≤ _
    rw [h.len] at this ⊢
    omega
  have hT := hide (litF_ok ct (lx.tks l 0).length (newS l d) hok hlen (Nat.le_add_right _ _))
  have hg := hide (litF_goes ct (lx.tks l 0).length (newS l d) hok).1
  unfold readL
  obtain ⟨U, hU⟩ : ∃ U, U = litF ct (lx.tks l 0).length (newS l d) := ⟨_, rfl⟩
  unfold LitAt at hT
  rw [← hU] at hT hg ⊢
  obtain ⟨c0, hc0⟩ : ∃ c0, c0 = newS l d := ⟨_, rfl⟩
  rw [← hc0] at hN hT hg
  clear h hU hok hlen hc0
  obtain ⟨r, C⟩ := U
  go_enter Tryz.func5, Tryz.ntmps5
  go_wp2_with fail
  have bW0 : Below w.heap.size w ((w.alloc (.cells #[Value.int .i64 0, .string { data := #[] }, .bool false, .slice none 0 0, .slice none 0 0, .int .i64 0, .int .i64 0] 32)).alloc (.cells #[Value.int .i64 0, .slice none 0 0, .slice none 0 0] 37)) := ((Below.refl _ _).alloc (Nat.le_refl _) _).alloc (by simp) _
  have hR1 : ((w.alloc (.cells #[Value.int .i64 0, .string { data := #[] }, .bool false, .slice none 0 0, .slice none 0 0, .int .i64 0, .int .i64 0] 32)).alloc (.cells #[Value.int .i64 0, .slice none 0 0, .slice none 0 0] 37)).heap[w.heap.size]? = some (.cells #[Value.int .i64 0, .string { data := #[] }, .bool false, .slice none 0 0, .slice none 0 0, .int .i64 0, .int .i64 0] 32 (0, 0)) := (Below.heap_alloc _ _ w.heap.size (by simp)).trans (heap_alloc_new w _)
  have hR2 : ((w.alloc (.cells #[Value.int .i64 0, .string { data := #[] }, .bool false, .slice none 0 0, .slice none 0 0, .int .i64 0, .int .i64 0] 32)).alloc (.cells #[Value.int .i64 0, .slice none 0 0, .slice none 0 0] 37)).heap[w.heap.size + 1]? = some (.cells #[Value.int .i64 0, .slice none 0 0, .slice none 0 0] 37 (0, 0)) := by
    have := heap_alloc_new (w.alloc (.cells #[Value.int .i64 0, .string { data := #[] }, .bool false, .slice none 0 0, .slice none 0 0, .int .i64 0, .int .i64 0] 32)) (.cells #[Value.int .i64 0, .slice none 0 0, .slice none 0 0] 37)
    simpa using this
  have hz0 : w.heap.size + 1 < ((w.alloc (.cells #[Value.int .i64 0, .string { data := #[] }, .bool false, .slice none 0 0, .slice none 0 0, .int .i64 0, .int .i64 0] 32)).alloc (.cells #[Value.int .i64 0, .slice none 0 0, .slice none 0 0] 37)).heap.size := by simp
  obtain ⟨W0, hW0⟩ : ∃ W0, W0 = (w.alloc (.cells #[Value.int .i64 0, .string { data := #[] }, .bool false, .slice none 0 0, .slice none 0 0, .int .i64 0, .int .i64 0] 32)).alloc (.cells #[Value.int .i64 0, .slice none 0 0, .slice none 0 0] 37) := ⟨_, rfl⟩
  rw [← hW0] at bW0 hR1 hR2 hz0 ⊢
  clear hW0
  refine ((unhide hN) W0 bW0).mono ?_
  rintro e w1 ⟨B, p, rfl, hB, hp0, hc1, b1⟩
  have hTB := hide ((unhide hT) B p)
  have hend := hide (fun W (hc : CurAt W B p C) => end_ok B p C W hc)
  have htold := hide (fun W (D : Cu) (hc : CurAt W B p D) => told_ok B p D W hc)
  clear hN hT
  unfold ptr at hTB hend htold ⊢
  go_wp2_with fail
  refine ((unhide hTB) w1 hc1).mono ?_
  rintro e w2 ⟨cs, F, rfl, hpo, hc2, hk2⟩
  obtain ⟨kk, tt, bl, ai, ni, ci, af, nf, cf, ln, co, rfl⟩ := hpo.shape
  have HP := hide hpo
  have hrF : ∀ b ∈ F, W0.heap.size ≤ b ∧ b < w2.heap.size := fun b hb => ⟨Nat.le_trans b1.size (hpo.rng b hb).1, (hpo.rng b hb).2⟩
  clear hpo
  have hB1 := hc1.lt
  have b02 : Below W0.heap.size W0 w2 := b1.trans (hk2.below hB b1.size)
  have HC2 := hide hc2
  clear hTB hc1 hc2 hk2 b1
  have bA2 := hide (fun o => show Below w2.heap.size w2 (w2.alloc o) from (Below.refl _ _).alloc (Nat.le_refl _) _)
  cases r with
  | none =>
    go_wp2_with fail
    have bT := b02.alloc b02.size (.cells #[.int .i64 kk, .string tt, .bool bl, .slice ai ni ci, .slice af nf cf, .int .i64 ln, .int .i64 co] 32)
    refine ((unhide htold) _ C ((unhide HC2).below ((unhide bA2) _))).mono ?_
    rintro e w5 ⟨fs, rfl, hflt, b5⟩
    have b05 : Below W0.heap.size W0 w5 := bT.trans (b5.mono bT.size)
    have hne12 : w.heap.size ≠ w.heap.size + 1 := by omega
    have HT1 := hide (show w5.there w.heap.size 0 7 from dt.there_cells ((b05.block w.heap.size (by omega)).trans hR1) (by decide))
    have HT2 := hide (show w5.there (w.heap.size + 1) 0 fs.length from by rw [hflt.three.1]; exact dt.there_cells ((b05.block (w.heap.size + 1) hz0).trans hR2) (by decide))
    have HX0 := res2 hne12 [.int .i64 0, .string ⟨#[]⟩, .bool false, .slice none 0 0, .slice none 0 0, .int .i64 0, .int .i64 0] fs (unhide HT1) (unhide HT2)
    obtain ⟨W6, e6⟩ : ∃ W6, W6 = w5.setCells w.heap.size 0 (#[.int .i64 0, .string ⟨#[]⟩, .bool false, .slice none 0 0, .slice none 0 0, .int .i64 0, .int .i64 0] : Array Value).toList := ⟨_, rfl⟩
    have HX := hide (show W6.there (w.heap.size + 1) 0 _ ∧ (W6.setCells (w.heap.size + 1) 0 fs).rangeAt w.heap.size 0 [.int .i64 0, .string ⟨#[]⟩, .bool false, .slice none 0 0, .slice none 0 0, .int .i64 0, .int .i64 0] ∧ (W6.setCells (w.heap.size + 1) 0 fs).rangeAt (w.heap.size + 1) 0 fs from by rw [e6]; exact HX0)
    have E6 := hide e6
    clear HX0 e6
    have HI := hide (show (Tryz.prog.info? 37).map (·.size) = some fs.length from by rw [hflt.three.1]; exact infoFl)
    have HO := hide (dt.one_cells hflt.three.2)
    have HF := hide hflt
    have hbw := hide (bW0.trans (b05.mono bW0.size))
    have hlo := hide (show w.heap.size + 1 < _ ∧ w.heap.size < _ from And.intro (Nat.lt_of_lt_of_le hz0 bT.size) (Nat.lt_of_lt_of_le (Nat.lt_of_succ_lt hz0) bT.size))
    clear b05 b5 htold hflt
    go_wp2_with (first
      | (refine wpList_store_mid (by rfl) 32 _ _ (by rfl) w.heap.size 0 #[.int .i64 0, .string ⟨#[]⟩, .bool false, .slice none 0 0, .slice none 0 0, .int .i64 0, .int .i64 0] (by rfl) (by rfl) (unhide HT1) infoLt (dt.one_cells (cs := [.int .i64 0, .string ⟨#[]⟩, .bool false, .slice none 0 0, .slice none 0 0, .int .i64 0, .int .i64 0]) (by rfl)) ?_; rw [← unhide E6])
      | refine wpList_store_mid (by rfl) 37 _ _ (by rfl) (w.heap.size + 1) 0 fs.toArray (by rfl) (by rfl) (by have := (unhide HX).1; simpa using this) (by have := unhide HI; simpa using this) (unhide HO) ?_)
    refine bodyPost_ret (result_rows2 rfl _ _ w.heap.size 0 [.int .i64 0, .string ⟨#[]⟩, .bool false, .slice none 0 0, .slice none 0 0, .int .i64 0, .int .i64 0] _ rfl (unhide HX).2.1 Tryz.underlying32 rfl infoLt (w.heap.size + 1) 0 fs _ rfl (unhide HX).2.2 Tryz.underlying37 rfl (unhide HI)) rfl ?_
    have e6 := unhide E6
    subst e6
    refine ⟨_, [], _, rfl, ⟨leaf_shape 0 em false 0 0, leaf_ow _ 0 em false 0 0, List.nodup_nil, by simp⟩, ?_, dt.below_setCells _ _ _ _ (dt.below_setCells _ _ _ _ (unhide hbw) (Nat.le_refl _)) (Nat.le_add_right _ 1)⟩
    exact (((unhide HF).out (unhide hlo).2 _ _).out (unhide hlo).1 _ _).mono (Nat.le_of_lt (unhide hlo).2)
  | some it =>
    cases hF : C.finB
    · rw [hF] at hend
      go_wp2_with fail
      refine ((unhide hend) _ ((unhide HC2).below ((unhide bA2) _))).mono ?_
      rintro e w3 ⟨rfl, hc3, hk3⟩
      have bT : Below W0.heap.size W0 w3 := (b02.alloc b02.size _).trans (hk3.below hB (Nat.le_trans b02.size ((unhide bA2) _).size))
      go_wp2_with fail
      refine ((unhide htold) _ C.fin hc3).mono ?_
      rintro e w5 ⟨fs, rfl, hflt, b5⟩
      have b05 : Below W0.heap.size W0 w5 := bT.trans (b5.mono bT.size)
      have hne12 : w.heap.size ≠ w.heap.size + 1 := by omega
      have HT1 := hide (show w5.there w.heap.size 0 7 from dt.there_cells ((b05.block w.heap.size (by omega)).trans hR1) (by decide))
      have HT2 := hide (show w5.there (w.heap.size + 1) 0 fs.length from by rw [hflt.three.1]; exact dt.there_cells ((b05.block (w.heap.size + 1) hz0).trans hR2) (by decide))
      have HX0 := res2 hne12 [.int .i64 0, .string ⟨#[]⟩, .bool false, .slice none 0 0, .slice none 0 0, .int .i64 0, .int .i64 0] fs (unhide HT1) (unhide HT2)
      obtain ⟨W6, e6⟩ : ∃ W6, W6 = w5.setCells w.heap.size 0 (#[.int .i64 0, .string ⟨#[]⟩, .bool false, .slice none 0 0, .slice none 0 0, .int .i64 0, .int .i64 0] : Array Value).toList := ⟨_, rfl⟩
      have HX := hide (show W6.there (w.heap.size + 1) 0 _ ∧ (W6.setCells (w.heap.size + 1) 0 fs).rangeAt w.heap.size 0 [.int .i64 0, .string ⟨#[]⟩, .bool false, .slice none 0 0, .slice none 0 0, .int .i64 0, .int .i64 0] ∧ (W6.setCells (w.heap.size + 1) 0 fs).rangeAt (w.heap.size + 1) 0 fs from by rw [e6]; exact HX0)
      have E6 := hide e6
      clear HX0 e6
      have HI := hide (show (Tryz.prog.info? 37).map (·.size) = some fs.length from by rw [hflt.three.1]; exact infoFl)
      have HO := hide (dt.one_cells hflt.three.2)
      have HF := hide hflt
      have hbw := hide (bW0.trans (b05.mono bW0.size))
      have hlo := hide (show w.heap.size + 1 < _ ∧ w.heap.size < _ from And.intro (Nat.lt_of_lt_of_le hz0 bT.size) (Nat.lt_of_lt_of_le (Nat.lt_of_succ_lt hz0) bT.size))
      clear b05 b5 htold hflt
      go_wp2_with (first
        | (refine wpList_store_mid (by rfl) 32 _ _ (by rfl) w.heap.size 0 #[.int .i64 0, .string ⟨#[]⟩, .bool false, .slice none 0 0, .slice none 0 0, .int .i64 0, .int .i64 0] (by rfl) (by rfl) (unhide HT1) infoLt (dt.one_cells (cs := [.int .i64 0, .string ⟨#[]⟩, .bool false, .slice none 0 0, .slice none 0 0, .int .i64 0, .int .i64 0]) (by rfl)) ?_; rw [← unhide E6])
        | refine wpList_store_mid (by rfl) 37 _ _ (by rfl) (w.heap.size + 1) 0 fs.toArray (by rfl) (by rfl) (by have := (unhide HX).1; simpa using this) (by have := unhide HI; simpa using this) (unhide HO) ?_)
      refine bodyPost_ret (result_rows2 rfl _ _ w.heap.size 0 [.int .i64 0, .string ⟨#[]⟩, .bool false, .slice none 0 0, .slice none 0 0, .int .i64 0, .int .i64 0] _ rfl (unhide HX).2.1 Tryz.underlying32 rfl infoLt (w.heap.size + 1) 0 fs _ rfl (unhide HX).2.2 Tryz.underlying37 rfl (unhide HI)) rfl ?_
      have e6 := unhide E6
      subst e6
      refine ⟨_, [], _, rfl, ⟨leaf_shape 0 em false 0 0, leaf_ow _ 0 em false 0 0, List.nodup_nil, by simp⟩, ?_, dt.below_setCells _ _ _ _ (dt.below_setCells _ _ _ _ (unhide hbw) (Nat.le_refl _)) (Nat.le_add_right _ 1)⟩
      exact (((unhide HF).out (unhide hlo).2 _ _).out (unhide hlo).1 _ _).mono (Nat.le_of_lt (unhide hlo).2)
    · rw [hF] at hend
      go_wp2_with fail
      refine ((unhide hend) _ ((unhide HC2).below ((unhide bA2) _))).mono ?_
      rintro e w3 ⟨rfl, hc3, hk3⟩
      have hI3 := (hk3.block w2.heap.size (by simp) (by have := (unhide HC2).lt; omega)).trans (heap_alloc_new w2 _)
      have b03 : Below W0.heap.size W0 w3 := (b02.alloc b02.size _).trans (hk3.below hB (Nat.le_trans b02.size ((unhide bA2) _).size))
      have i0 : w3.cell? ⟨w2.heap.size, 0, none⟩ = some (.int .i64 kk) := (dt.cell_cells hI3 0).trans rfl
      have i1 : w3.cell? ⟨w2.heap.size, 1, none⟩ = some (.string tt) := (dt.cell_cells hI3 1).trans rfl
      have i2 : w3.cell? ⟨w2.heap.size, 2, none⟩ = some (.bool bl) := (dt.cell_cells hI3 2).trans rfl
      have i3 : w3.cell? ⟨w2.heap.size, 3, none⟩ = some (.slice ai ni ci) := (dt.cell_cells hI3 3).trans rfl
      have i4 : w3.cell? ⟨w2.heap.size, 4, none⟩ = some (.slice af nf cf) := (dt.cell_cells hI3 4).trans rfl
      have i5 : w3.cell? ⟨w2.heap.size, 5, none⟩ = some (.int .i64 ln) := (dt.cell_cells hI3 5).trans rfl
      have i6 : w3.cell? ⟨w2.heap.size, 6, none⟩ = some (.int .i64 co) := (dt.cell_cells hI3 6).trans rfl
      have HW3 := hide (show Ow w3 (it) [.int .i64 kk, .string tt, .bool bl, .slice ai ni ci, .slice af nf cf, .int .i64 ln, .int .i64 co] F from ow_kp (ow_below (unhide HP).own ((unhide bA2) _) (fun b hb => (hrF b hb).2)) hk3 (Nat.lt_of_lt_of_le (Nat.lt_succ_self B) (Nat.le_refl _)) (fun b hb => ⟨by have h1 := (unhide HP).rng b hb; have h2 := hB1; omega, by have := (hrF b hb).2; simp; omega⟩))
      have hz23 := hide (show w2.heap.size ≤ w3.heap.size from by have := hk3.size; simp at this; omega)
      have hne12 : w.heap.size ≠ w.heap.size + 1 := by omega
      have HT1 := hide (show w3.there w.heap.size 0 7 from dt.there_cells ((b03.block w.heap.size (by omega)).trans hR1) (by decide))
      have HT2 := hide (show w3.there (w.heap.size + 1) 0 3 from dt.there_cells ((b03.block (w.heap.size + 1) hz0).trans hR2) (by decide))
      have HX0 := res2 hne12 [.int .i64 kk, .string tt, .bool bl, .slice ai ni ci, .slice af nf cf, .int .i64 ln, .int .i64 co] [.int .i64 0, .slice none 0 0, .slice none 0 0] (unhide HT1) (unhide HT2)
      obtain ⟨W6, e6⟩ : ∃ W6, W6 = w3.setCells w.heap.size 0 (#[.int .i64 kk, .string tt, .bool bl, .slice ai ni ci, .slice af nf cf, .int .i64 ln, .int .i64 co] : Array Value).toList := ⟨_, rfl⟩
      have HX := hide (show W6.there (w.heap.size + 1) 0 _ ∧ (W6.setCells (w.heap.size + 1) 0 [.int .i64 0, .slice none 0 0, .slice none 0 0]).rangeAt w.heap.size 0 [.int .i64 kk, .string tt, .bool bl, .slice ai ni ci, .slice af nf cf, .int .i64 ln, .int .i64 co] ∧ (W6.setCells (w.heap.size + 1) 0 [.int .i64 0, .slice none 0 0, .slice none 0 0]).rangeAt (w.heap.size + 1) 0 [.int .i64 0, .slice none 0 0, .slice none 0 0] from by rw [e6]; exact HX0)
      have E6 := hide e6
      clear HX0 e6
      have hfin := hide (show C.fin = C ∧ C.kd = 0 from ⟨by unfold Cu.fin; rw [hF]; rfl, (of_decide_eq_true hF).1⟩)
      have hbw := hide (bW0.trans (b03.mono bW0.size))
      clear hI3 b03 hk3 hc3 hend htold b02 bA2
      go_wp2_with (first
        | (refine wpList_store_mid (by rfl) 32 _ _ (by rfl) w.heap.size 0 #[.int .i64 kk, .string tt, .bool bl, .slice ai ni ci, .slice af nf cf, .int .i64 ln, .int .i64 co] (by rfl) (by rfl) (unhide HT1) infoLt (dt.one_cells (cs := [.int .i64 kk, .string tt, .bool bl, .slice ai ni ci, .slice af nf cf, .int .i64 ln, .int .i64 co]) (by rfl)) ?_; rw [← unhide E6])
        | refine wpList_store_mid (by rfl) 37 _ _ (by rfl) (w.heap.size + 1) 0 #[.int .i64 0, .slice none 0 0, .slice none 0 0] (by rfl) (by rfl) (unhide HX).1 infoFl (dt.one_cells (cs := [.int .i64 0, .slice none 0 0, .slice none 0 0]) (by rfl)) ?_)
      refine bodyPost_ret (result_rows2 rfl _ _ w.heap.size 0 [.int .i64 kk, .string tt, .bool bl, .slice ai ni ci, .slice af nf cf, .int .i64 ln, .int .i64 co] _ rfl (unhide HX).2.1 Tryz.underlying32 rfl infoLt (w.heap.size + 1) 0 [.int .i64 0, .slice none 0 0, .slice none 0 0] _ rfl (unhide HX).2.2 Tryz.underlying37 rfl infoFl) rfl ?_
      have e6 := unhide E6
      subst e6
      refine ⟨_, F, _, rfl, ⟨⟨kk, tt, bl, ai, ni, ci, af, nf, cf, ln, co, rfl⟩, ow_out (ow_out (unhide HW3) (fun hm => by have := (hrF _ hm).1; omega) _ _) (fun hm => by have := (hrF _ hm).1; omega) _ _, (unhide HP).nodup, fun b hb => ⟨by have := (hrF b hb).1; have := bW0.size; omega, by rw [dt.size_setCells, dt.size_setCells]; have := (hrF b hb).2; have := unhide hz23; omega⟩⟩, ?_, dt.below_setCells _ _ _ _ (dt.below_setCells _ _ _ _ (unhide hbw) (Nat.le_refl _)) (Nat.le_add_right _ 1)⟩
      unfold FltAt
      show (if C.fin.kd = 0 then _ else _)
      rw [(unhide hfin).1, if_pos (unhide hfin).2]
end Go.Proofs.YtdmfbahnhkdamaaGreat.cu
namespace Go.Proofs.YtdmfbahnhkdamaaGreat.cu
open Go.ChangeShapes Go.WideShapes Go.ChangeAt Go.RowKit
open ints (hide unhide)
open dt (Dt Kp RowAt Ow Grow)
set_option linter.unusedVariables false
set_option linter.unusedSimpArgs false
theorem infoAz : ∃ i z, Tryz.prog.info? 51 = some i ∧ i.zero = some z ∧ i.size = 10 ∧ i.bytes = 128 ∧ z.cells.size = 10 := by
  have hin : (Tryz.prog.info? 51).map (fun i => (i.bytes, i.size, i.zero.map (·.cells.size))) = some (128, 10, some 10) := by kernel_rfl
  cases hq : Tryz.prog.info? 51 with
  | none => simp [hq] at hin
  | some i =>
    simp [hq] at hin
    obtain ⟨h1, h2, z, hz, h3⟩ := hin
    exact ⟨i, z, rfl, hz, h2, h1, h3⟩
def BrkPA (r : Option (List Dt)) (lo : Nat) (w' : World) (sl : Value) : Prop := match r with | none => sl = .slice none 0 0 | some l => ∃ G, Grow 51 10 w' lo l sl G
set_option maxRecDepth 4000 in
set_option maxHeartbeats 4000000 in
theorem brkA_ok (E : Cu → Option Dt × Cu) (ct : Bool) (c : Cu) (left right : ByteArray) (hc0 : c.Ok) (hlen : c.ts.length ≤ 1099511627777) (hG : Goes E) (hE : ∀ cc : Cu, cc.Ok → cc.ts = c.ts → c.ix < cc.ix → FldAt 48 E ct cc) (B p : Nat) (w : World) (h : CurAt w B p c) :
    Calls Tryz.prog 47 #[ptr B, .string left, .string right, .int .i64 1, .bool ct, .func (.func 48) #[ptr B] #[]] w fun e w' => ∃ sl, e = .returned (.tuple #[sl, .bool (brk E left right 1 c).1.isSome]) ∧ BrkPA (brk E left right 1 c).1 w.heap.size w' sl ∧ CurAt w' B p (brk E left right 1 c).2 ∧ Kp B w w' := by
  have en : ∀ args w, (callFunc 48 args).run Tryz.prog w = .ok (.enter 48 args) w := fun _ _ => rfl
  have ho := hide (open_ok B p c left w h)
  have hB := h.lt
  have hp := h.plt
  cases hO : c.opB left
  · have hs := hide (show brk E left right 1 c = (none, c.opn left) from by unfold brk; rw [hO]; rfl)
    rw [hO] at ho
    clear h hE
    unfold ptr at ho ⊢
    go_enter Tryz.func47, Tryz.ntmps47
    go_wp2_with fail
    refine (unhide ho).mono ?_
    rintro e w1 ⟨rfl, hc1, hk1⟩
    clear ho
    go_wp2_with fail
    go_ret2
    rw [unhide hs]
    exact ⟨_, rfl, rfl, hc1, hk1⟩
  · have hst := opn_stp hc0 left
    have hoi := opn_ix hO
    obtain ⟨R, hR⟩ : ∃ R, R = brkF E right 1 c.ts.length [] (c.opn left) := ⟨_, rfl⟩
    have hs := hide (show brk E left right 1 c = R from by unfold brk; rw [hO, hR]; rfl)
    rw [hO] at ho
    have HR := hide hR.symm
    clear h hR hO
    have hcl := hide (fun W (cc : Cu) (hc : CurAt W B p cc) => close_ok B p cc right W hc)
    have hip := hide (fun W (cc : Cu) (hc : CurAt W B p cc) => isPunct_ok B p cc right W hc)
    have hEE := hide (fun (cc : Cu) (h1 : cc.Ok) (h2 : cc.ts = c.ts) (h3 : c.ix < cc.ix) => hE cc h1 h2 h3 B p)
    clear hE
    unfold ptr at ho hcl hip hEE ⊢
    go_enter Tryz.func47, Tryz.ntmps47
    go_wp2_with fail
    refine (unhide ho).mono ?_
    rintro e w1 ⟨rfl, hc1, hk1⟩
    clear ho
    have hz1 := hk1.size
    go_wp2_with fail
    go_loopg [14] c.ts.length (fun g sl wr => ∃ (l : List Dt) (cc : Cu) (Gs : List Nat), Hid (brkF E right 1 g l cc = R) ∧ CurAt wr B p cc ∧ Hid (Grow 51 10 wr w.heap.size l sl Gs) ∧ Kp B w wr ∧ Hid (cc.ts = c.ts) ∧ c.ts.length ≤ g + cc.ix ∧ l.length + 1 + c.ix ≤ cc.ix)
    case atStart => exact ⟨[], c.opn left, [], HR, hc1, hide Grow.nil, hk1, hide hst.ts, Nat.le_add_right _ _, by rw [hoi]; simp; omega⟩
    case round =>
      obtain ⟨l, cc, Gs, hrun, hcc, hgr, hkr, hts, hfu, hll⟩ := hrel
      have hixl := hcc.ok.lt
      rw [unhide hts] at hixl
      obtain ⟨al, cl, hsl⟩ := (unhide hgr).form
      subst hsl
      obtain ⟨g', rfl⟩ : ∃ g', gk = g' + 1 := ⟨gk - 1, by omega⟩
      by_cases hl0 : l.length = 0
      · have hlz : (l.length : Int) < 1 := by omega
        have hl1 : l.length < 1 := by omega
        obtain ⟨w2, hw2⟩ : ∃ w2, w2 = wr := ⟨_, rfl⟩
        subst hw2
        have b2 := Below.refl w2.heap.size w2
        have hc2 := hcc
        have hgr2 := hgr
        have hk2 := hkr
        clear hl0
        have hrun2 := hide (show (match (E cc).1 with | none => (none, (E cc).2) | some d => brkF E right 1 g' (l ++ [d]) (E cc).2) = R from by
          have e := unhide hrun
          rw [brkF, if_pos (.inl hl1)] at e
          exact e)
        have hgo := hG cc hcc.ok
        have hcall := hide ((unhide hEE) cc hcc.ok (unhide hts) (by omega) w2 hc2)
        go_wp2_with fail
        refine (unhide hcall).mono ?_
        rintro e w3 ⟨cs, F, rfl, hpo, hc3, hk3⟩
        obtain ⟨U, hU⟩ : ∃ U, U = E cc := ⟨_, rfl⟩
        rw [← hU] at hrun2 hgo hpo hc3 ⊢
        obtain ⟨r, C⟩ := U
        obtain ⟨nm, ds, X, Y, ⟨k, tx, bl, ai, ni, ci, af, nf, cf, ln, co, rfl⟩, rfl⟩ := hpo.shape
        clear hcall hU hrun
        have HP := hide hpo
        clear hpo
        have HC3 := hide hc3
        have HK3 := hide hk3
        have hz3 := hk3.size
        cases r with
        | none =>
          have hrun3 := hide (show (none, C) = R from unhide hrun2)
          go_wp2_with fail
          go_ret2
          rw [unhide hs, ← unhide hrun3]
          exact ⟨_, rfl, rfl, (unhide HC3).below ((Below.refl _ _).alloc (Nat.le_refl _) _), (hk2.trans (unhide HK3)).trans (Kp.of ((Below.refl _ _).alloc (Nat.le_refl _) _))⟩
        | some d =>
          have hrun3 := hide (show brkF E right 1 g' (l ++ [d]) C = R from unhide hrun2)
          have hix3 : cc.ix < C.ix := hgo.2 rfl
          have hts3 := hgo.1.ts
          have hlt3 := hgo.1.ok.lt
          rw [hts3, unhide hts] at hlt3
          have hgr3 := (unhide hgr2).kp (unhide HK3) hB
          obtain ⟨it, zt, q1, q2, q3, q4, q5⟩ := infoAz
          have HQ := hide (And.intro q1 (And.intro q2 (And.intro q3 (And.intro q4 q5))))
          clear q1 q2 q3 q4 q5
          obtain ⟨xss, hr3, hol3, hx3⟩ := hgr3.row
          have hr4 := hide (fun o => World.ownsRow.alloc hr3 o)
          have hbyt := hide (show (l.length + 1) * 128 ≤ 140737488355328 ∧ l.length + 1 ≤ maxLen from ⟨by omega, by unfold maxLen; omega⟩)
          have hsz4 := hide (fun o => show w.heap.size ≤ (w3.alloc o).heap.size from by have := hz3; have := b2.size; have := hkr.size; simp; omega)
          have hone := hide ((unhide HP).own.one)
          have HG := hide (And.intro hgr3 (And.intro hol3 hx3))
          have hTS := hide hts3
          clear hrun2 hgo hts3 hgr3 hr3 hol3 hx3
          go_wp2_with (first
            | (at_builtin; refine dt.wp_snoc (by rfl) _ _ (by rfl) Tryz.underlying48 (unhide HQ).1 (unhide HQ).2.1 (unhide HQ).2.2.1 (unhide HQ).2.2.2.1 (unhide HQ).2.2.2.2 (by omega) w.heap.size l.length xss.flatten _ (by rfl) ((unhide hr4) _) [.string nm, .int .i64 k, .string tx, .bool bl, .slice ai ni ci, .slice af nf cf, .int .i64 ln, .int .i64 co, .int .i64 X, .int .i64 Y] (by rfl) (unhide hone) (w3.heap.size + 1) (by simp) (by rfl) (unhide hbyt).1 (unhide hbyt).2 ((unhide hsz4) _) ?_; intro sl' w7 hr7 b7 hold7 hat7; have H7 := hide (And.intro hr7 (And.intro b7 (And.intro hold7 hat7))); clear hr7 b7 hold7 hat7))
          go_roundg g'
          case rel =>
            obtain ⟨hr7, b7, hold7, hat7⟩ := unhide H7
            obtain ⟨hgr3, hol3, hx3⟩ := unhide HG
            have bA : Below w3.heap.size w3 (w3.alloc (.cells #[.string nm, .int .i64 k, .string tx, .bool bl, .slice ai ni ci, .slice af nf cf, .int .i64 ln, .int .i64 co, .int .i64 X, .int .i64 Y] 51)) := (Below.refl _ _).alloc (Nat.le_refl _) _
            have hgr4 := hgr3.keep bA.size (fun b hb _ => bA.block b hb)
            have hown := fun b (hb : (Value.slice al l.length cl).ownBlock = some b) => (let ⟨_, hr, _⟩ := (unhide hgr2).row; (hr.lt b hb).2)
            have hF3 : ∀ b ∈ F, w2.heap.size ≤ b ∧ b < w3.heap.size := (unhide HP).rng
            have hsz : w.heap.size ≤ w2.heap.size := hk2.size
            have hmore := hgr4.more (dt.OwL.agree (fun w w' e cs F => dt.Ow.agree e cs F) (fun b hb j => dt.cell_blk (bA.block b (hgr3.rng b hb).2) j) hol3) hx3 (ow_below (unhide HP).own bA (fun b hb => (hF3 b hb).2)) (unhide HP).nodup (fun b hb => ⟨by have := (hF3 b hb).1; omega, by have := (hF3 b hb).2; have := bA.size; omega, fun hm => by have := ((unhide hgr2).rng b hm).2; have := (hF3 b hb).1; omega, fun e => by have := hown b e; have := (hF3 b hb).1; omega⟩) (by rfl) hr7 (by have := (hr7.lt); have := b7.size; exact this) hold7 hat7
            have hBs : B < w3.heap.size := by omega
            have hCA := (unhide HC3).below bA
            refine ⟨l ++ [d], C, Gs ++ F, hrun3, ?_, hide hmore, ?_, hide ((unhide hTS).trans (unhide hts)), by omega, by rw [List.length_append]; simp; omega⟩
            · exact hCA.low b7 hB hp
            · exact ((hk2.trans (unhide HK3)).trans (Kp.of bA)).low b7
          case measure => exact Nat.lt_succ_self _
      · have hlz : ¬ ((l.length : Int) < 1) := by omega
        have hl1 : ¬ l.length < 1 := by omega
        clear hl0
        have hip2 := hide ((unhide hip) wr cc hcc)
        go_wp2_with fail
        refine (unhide hip2).mono ?_
        rintro e w2 ⟨rfl, b2⟩
        have hc2 := hcc.below b2
        have hgr2 := hide ((unhide hgr).keep b2.size (fun b hb _ => b2.block b hb))
        have hk2 := hkr.trans (Kp.of b2)
        cases hQ : cc.isP right
        · have hrun2 := hide (show (match (E cc).1 with | none => (none, (E cc).2) | some d => brkF E right 1 g' (l ++ [d]) (E cc).2) = R from by
            have e := unhide hrun
            rw [brkF, if_pos (.inr hQ)] at e
            exact e)
          have hgo := hG cc hcc.ok
          have hcall := hide ((unhide hEE) cc hcc.ok (unhide hts) (by omega) w2 hc2)
          go_wp2_with fail
          refine (unhide hcall).mono ?_
          rintro e w3 ⟨cs, F, rfl, hpo, hc3, hk3⟩
          obtain ⟨U, hU⟩ : ∃ U, U = E cc := ⟨_, rfl⟩
          rw [← hU] at hrun2 hgo hpo hc3 ⊢
          obtain ⟨r, C⟩ := U
          obtain ⟨nm, ds, X, Y, ⟨k, tx, bl, ai, ni, ci, af, nf, cf, ln, co, rfl⟩, rfl⟩ := hpo.shape
          clear hcall hU hip2 hrun
          have HP := hide hpo
          clear hpo
          have HC3 := hide hc3
          have HK3 := hide hk3
          have hz3 := hk3.size
          cases r with
          | none =>
            have hrun3 := hide (show (none, C) = R from unhide hrun2)
            go_wp2_with fail
            go_ret2
            rw [unhide hs, ← unhide hrun3]
            exact ⟨_, rfl, rfl, (unhide HC3).below ((Below.refl _ _).alloc (Nat.le_refl _) _), (hk2.trans (unhide HK3)).trans (Kp.of ((Below.refl _ _).alloc (Nat.le_refl _) _))⟩
          | some d =>
            have hrun3 := hide (show brkF E right 1 g' (l ++ [d]) C = R from unhide hrun2)
            have hix3 : cc.ix < C.ix := hgo.2 rfl
            have hts3 := hgo.1.ts
            have hlt3 := hgo.1.ok.lt
            rw [hts3, unhide hts] at hlt3
            have hgr3 := (unhide hgr2).kp (unhide HK3) hB
            obtain ⟨it, zt, q1, q2, q3, q4, q5⟩ := infoAz
            have HQ := hide (And.intro q1 (And.intro q2 (And.intro q3 (And.intro q4 q5))))
            clear q1 q2 q3 q4 q5
            obtain ⟨xss, hr3, hol3, hx3⟩ := hgr3.row
            have hr4 := hide (fun o => World.ownsRow.alloc hr3 o)
            have hbyt := hide (show (l.length + 1) * 128 ≤ 140737488355328 ∧ l.length + 1 ≤ maxLen from ⟨by omega, by unfold maxLen; omega⟩)
            have hsz4 := hide (fun o => show w.heap.size ≤ (w3.alloc o).heap.size from by have := hz3; have := b2.size; have := hkr.size; simp; omega)
            have hone := hide ((unhide HP).own.one)
            have HG := hide (And.intro hgr3 (And.intro hol3 hx3))
            have hTS := hide hts3
            clear hrun2 hgo hts3 hgr3 hr3 hol3 hx3
            go_wp2_with (first
              | (at_builtin; refine dt.wp_snoc (by rfl) _ _ (by rfl) Tryz.underlying48 (unhide HQ).1 (unhide HQ).2.1 (unhide HQ).2.2.1 (unhide HQ).2.2.2.1 (unhide HQ).2.2.2.2 (by omega) w.heap.size l.length xss.flatten _ (by rfl) ((unhide hr4) _) [.string nm, .int .i64 k, .string tx, .bool bl, .slice ai ni ci, .slice af nf cf, .int .i64 ln, .int .i64 co, .int .i64 X, .int .i64 Y] (by rfl) (unhide hone) (w3.heap.size + 1) (by simp) (by rfl) (unhide hbyt).1 (unhide hbyt).2 ((unhide hsz4) _) ?_; intro sl' w7 hr7 b7 hold7 hat7; have H7 := hide (And.intro hr7 (And.intro b7 (And.intro hold7 hat7))); clear hr7 b7 hold7 hat7))
            go_roundg g'
            case rel =>
              obtain ⟨hr7, b7, hold7, hat7⟩ := unhide H7
              obtain ⟨hgr3, hol3, hx3⟩ := unhide HG
              have bA : Below w3.heap.size w3 (w3.alloc (.cells #[.string nm, .int .i64 k, .string tx, .bool bl, .slice ai ni ci, .slice af nf cf, .int .i64 ln, .int .i64 co, .int .i64 X, .int .i64 Y] 51)) := (Below.refl _ _).alloc (Nat.le_refl _) _
              have hgr4 := hgr3.keep bA.size (fun b hb _ => bA.block b hb)
              have hown := fun b (hb : (Value.slice al l.length cl).ownBlock = some b) => (let ⟨_, hr, _⟩ := (unhide hgr2).row; (hr.lt b hb).2)
              have hF3 : ∀ b ∈ F, w2.heap.size ≤ b ∧ b < w3.heap.size := (unhide HP).rng
              have hsz : w.heap.size ≤ w2.heap.size := hk2.size
              have hmore := hgr4.more (dt.OwL.agree (fun w w' e cs F => dt.Ow.agree e cs F) (fun b hb j => dt.cell_blk (bA.block b (hgr3.rng b hb).2) j) hol3) hx3 (ow_below (unhide HP).own bA (fun b hb => (hF3 b hb).2)) (unhide HP).nodup (fun b hb => ⟨by have := (hF3 b hb).1; omega, by have := (hF3 b hb).2; have := bA.size; omega, fun hm => by have := ((unhide hgr2).rng b hm).2; have := (hF3 b hb).1; omega, fun e => by have := hown b e; have := (hF3 b hb).1; omega⟩) (by rfl) hr7 (by have := (hr7.lt); have := b7.size; exact this) hold7 hat7
              have hBs : B < w3.heap.size := by omega
              have hCA := (unhide HC3).below bA
              refine ⟨l ++ [d], C, Gs ++ F, hrun3, ?_, hide hmore, ?_, hide ((unhide hTS).trans (unhide hts)), by omega, by rw [List.length_append]; simp; omega⟩
              · exact hCA.low b7 hB hp
              · exact ((hk2.trans (unhide HK3)).trans (Kp.of bA)).low b7
            case measure => exact Nat.lt_succ_self _
        · have hrun2 := hide (show (some l, cc.cls right) = R from by
            have e := unhide hrun
            rw [brkF, if_neg (fun e => by rcases e with e | e; omega; rw [hQ] at e; cases e)] at e
            exact e)
          have hcl2 := hide ((unhide hcl) w2 cc hc2)
          rw [hQ] at hcl2
          clear hrun hip2
          go_wp2_with fail
          refine (unhide hcl2).mono ?_
          rintro e w3 ⟨rfl, hc3, hk3⟩
          clear hcl2
          go_wp2_with fail
          go_ret2
          rw [unhide hs, ← unhide hrun2]
          exact ⟨_, rfl, ⟨Gs, (unhide hgr2).kp hk3 hB⟩, hc3, hk2.trans hk3⟩
end Go.Proofs.YtdmfbahnhkdamaaGreat.cu
namespace Go.Proofs.YtdmfbahnhkdamaaGreat.cu
open Go.ChangeShapes Go.WideShapes Go.ChangeAt Go.RowKit
open ints (hide unhide)
open dt (Dt Kp RowAt Ow Grow)
set_option linter.unusedVariables false
set_option linter.unusedSimpArgs false
theorem _root_.Go.Proofs.YtdmfbahnhkdamaaGreat.dt.Grow.lo {t : TypeId} {size : Nat} {w : World} {B B' : Nat} {l : List Dt} {sl : Value} {G : List Nat} (h : Grow t size w B l sl G) (hb : B' ≤ B) : Grow t size w B' l sl G :=
  ⟨h.nodup, fun b hb' => ⟨Nat.le_trans hb (h.rng b hb').1, (h.rng b hb').2⟩, h.own, by
    obtain ⟨xss, h1, h2, h3⟩ := h.row
    exact ⟨xss, ⟨h1.1, h1.2.imp id (fun ⟨g', r1, r2, r3, r4, r5⟩ => ⟨g', r1, r2, r3, Nat.le_trans hb r4, r5⟩)⟩, h2, h3⟩⟩
def bLp : ByteArray := ⟨#[40]⟩
def bRp : ByteArray := ⟨#[41]⟩
def bAt : ByteArray := ⟨#[64]⟩
/-- arguments, if there are any -/
def argsS (L : Cu → Option Dt × Cu) (c : Cu) : Option (List Dt) × Cu := if c.isP bLp then brk (argS L) bLp bRp 1 c else (if c.kd = 0 then some [] else none, c)
def ArgsAt (A : Cu → Option (List Dt) × Cu) (ct : Bool) (c : Cu) : Prop := ∀ (B p : Nat) (w : World), CurAt w B p c → Calls Tryz.prog 32 #[ptr B, .bool ct] w fun e w' => ∃ sl, e = .returned (.tuple #[sl, .bool (A c).1.isSome]) ∧ BrkPA (A c).1 w.heap.size w' sl ∧ CurAt w' B p (A c).2 ∧ Kp B w w'
theorem args_ok (L : Cu → Option Dt × Cu) (ct : Bool) (c : Cu) (hc0 : c.Ok) (hlen : c.ts.length ≤ 1099511627777) (hG : Goes L) (hE : ∀ cc : Cu, cc.Ok → cc.ts = c.ts → c.ix < cc.ix → FldAt 48 (argS L) ct cc) : ArgsAt (argsS L) ct c := by
  intro B p w h
  have hi := hide (isPunct_ok B p c bLp w h)
  have hd := hide (fun W (bb : Below w.heap.size w W) => dead_ok B p c W (h.below bb))
  have hb := hide (fun W (bb : Below w.heap.size w W) => brkA_ok (argS L) ct c bLp bRp hc0 hlen (argS_goes hG) hE B p W (h.below bb))
  have hcb := hide (fun W (bb : Below w.heap.size w W) => h.below bb)
  unfold argsS
  cases hP : c.isP bLp
  · rw [hP] at hi
    simp only [Bool.false_eq_true, if_false]
    clear hb h hE
    unfold ptr at hi hd ⊢
    by_cases hk : c.kd = 0
    · rw [if_pos hk]
      rw [show (c.kd != 0) = false by simpa using hk] at hd
      clear hk
      go_enter Tryz.func32, Tryz.ntmps32
      go_wp2_with fail
      refine (unhide hi).mono ?_
      rintro e w1 ⟨rfl, b1⟩
      go_wp2_with fail
      refine ((unhide hd) w1 b1).mono ?_
      rintro e w2 ⟨rfl, hw⟩
      obtain rfl : w1 = w2 := hw.symm
      go_wp2_with fail
      go_ret2
      exact ⟨_, rfl, ⟨[], Grow.nil⟩, (unhide hcb) _ b1, Kp.of b1⟩
    · rw [if_neg hk]
      rw [show (c.kd != 0) = true by simpa using hk] at hd
      clear hk
      go_enter Tryz.func32, Tryz.ntmps32
      go_wp2_with fail
      refine (unhide hi).mono ?_
      rintro e w1 ⟨rfl, b1⟩
      go_wp2_with fail
      refine ((unhide hd) w1 b1).mono ?_
      rintro e w2 ⟨rfl, hw⟩
      obtain rfl : w1 = w2 := hw.symm
      go_wp2_with fail
      go_ret2
      exact ⟨_, rfl, rfl, (unhide hcb) _ b1, Kp.of b1⟩
  · rw [hP] at hi
    simp only [if_true]
    clear h hE hd
    unfold ptr at hi hb ⊢
    go_enter Tryz.func32, Tryz.ntmps32
    go_wp2_with fail
    refine (unhide hi).mono ?_
    rintro e w1 ⟨rfl, b1⟩
    go_wp2_with fail
    refine ((unhide hb) w1 b1).mono ?_
    rintro e w2 ⟨sl, rfl, hbp, hc2, hk2⟩
    go_wp2_with fail
    go_ret2
    refine ⟨sl, rfl, ?_, hc2, (Kp.of b1).trans hk2⟩
    have h1 := b1.size
    unfold BrkPA at hbp ⊢
    split at hbp
    · exact hbp
    · obtain ⟨G, hg⟩ := hbp
      exact ⟨G, hg.lo h1⟩
end Go.Proofs.YtdmfbahnhkdamaaGreat.cu
namespace Go.Proofs.YtdmfbahnhkdamaaGreat.cu
open Go.ChangeShapes Go.WideShapes Go.ChangeAt Go.RowKit
open ints (hide unhide)
open dt (Dt Kp RowAt Ow Grow)
set_option linter.unusedVariables false
set_option linter.unusedSimpArgs false
theorem infoDi : (Tryz.prog.info? 50).map (·.size) = some 4 := by kernel_rfl
/-- a directive -/
def dirD (nm : ByteArray) (l : List Dt) (ln co : Int) : Dt := .val (.string nm) (.lst 10 (Dt.of l) (.val (.int .i64 ln) (.val (.int .i64 co) .nil)))
def dirZ : Dt := dirD em [] 0 0
def dirS (L : Cu → Option Dt × Cu) (c : Cu) : Option Dt × Cu :=
  match (argsS L c.take.name).1 with
  | none => (none, (argsS L c.take.name).2)
  | some l => (some (dirD c.take.tok.tx l c.tok.ln c.tok.co), (argsS L c.take.name).2)
structure DirPost (d : Dt) (w w' : World) (cs : List Value) (F : List Nat) : Prop where
  shape : ∃ nm a n c ln co, cs = [.string nm, .slice a n c, .int .i64 ln, .int .i64 co]
  own : Ow w' d cs F
  nodup : F.Nodup
  rng : ∀ b ∈ F, w.heap.size ≤ b ∧ b < w'.heap.size
def DirAt (E : Cu → Option Dt × Cu) (ct : Bool) (c : Cu) : Prop := ∀ (B p : Nat) (w : World), CurAt w B p c → Calls Tryz.prog 15 #[ptr B, .bool ct] w fun e w' => ∃ cs F, e = .returned (.tuple #[.agg cs.toArray, .bool (E c).1.isSome]) ∧ DirPost ((E c).1.getD dirZ) w w' cs F ∧ CurAt w' B p (E c).2 ∧ Kp B w w'
theorem dir_ow {t : TypeId} {w : World} {lo : Nat} {l : List Dt} {sl : Value} {G : List Nat} (h : Grow t 10 w lo l sl G) (nm : ByteArray) (ln co : Int) : ∃ a n c F, sl = .slice a n c ∧ Ow w (dirD nm l ln co) [.string nm, .slice a n c, .int .i64 ln, .int .i64 co] F ∧ F.Nodup ∧ ∀ b ∈ F, lo ≤ b ∧ b < w.heap.size := by
  obtain ⟨a, n, c, F, rfl, h1, h2, h3, h4, h5, h6, h7⟩ := h.shut
  refine ⟨a, n, c, F, rfl, ?_, h4, h5⟩
  unfold dirD
  unfold Ow
  refine ⟨_, rfl, rfl, ?_⟩
  unfold Ow
  exact ⟨a, n, c, _, F, [], rfl, h1, h2, h3, h7, pos_ow _ _ _, by simp⟩
theorem argsS_dead (L : Cu → Option Dt × Cu) {c : Cu} (h : c.kd ≠ 0) : (argsS L c).1 = none := by
  unfold argsS
  have : c.isP bLp = false := by unfold Cu.isP; simp [h]
  rw [this]
  simp [h]
theorem name_N (L : Cu → Option Dt × Cu) (c : Cu) (h : (argsS L c.name).1.isSome = true) : c.isN = true := by
  cases hN : c.isN
  · exfalso
    have h1 : c.name.kd ≠ 0 := by
      unfold Cu.name
      rw [hN]
      unfold Cu.stop
      simp only [Bool.false_eq_true, if_false]
      split
      · show (70 : Int) ≠ 0; decide
      · assumption
    rw [argsS_dead L h1] at h
    cases h
  · rfl
set_option maxRecDepth 4000 in
set_option maxHeartbeats 2000000 in
theorem dir_ok (L : Cu → Option Dt × Cu) (ct : Bool) (c : Cu) (hc0 : c.Ok) (hm : c.ix + 1 < c.ts.length) (hA : ArgsAt (argsS L) ct c.take.name) : DirAt (dirS L) ct c := by
  intro B p w h
  have ht := hide (fun W (bb : Below w.heap.size w W) => take_ok B p c W (h.below bb) hm)
  have hn := hide (fun W (hc : CurAt W B p c.take) => nameAny_ok B p c.take W hc)
  have ha := hide (fun W (hc : CurAt W B p c.take.name) => hA B p W hc)
  have hlt := h.lt
  have hplt := h.plt
  have hne : B ≠ w.heap.size := by omega
  have hnp : p ≠ w.heap.size := by omega
  have bA := hide (fun o => show Below w.heap.size w (w.alloc o) from (Below.refl _ _).alloc (Nat.le_refl _) _)
  have hs0 := hide (show (argsS L c.take.name).1 = none → dirS L c = (none, (argsS L c.take.name).2) from fun e => by unfold dirS; rw [e])
  have hs1 := hide (show ∀ l, (argsS L c.take.name).1 = some l → dirS L c = (some (dirD c.take.tok.tx l c.tok.ln c.tok.co), (argsS L c.take.name).2) from fun l e => by unfold dirS; rw [e])
  have hN := hide (name_N L c.take)
  rw [nmT_form] at hn
  obtain ⟨U, hU⟩ : ∃ U, U = argsS L c.take.name := ⟨_, rfl⟩
  rw [← hU] at ha hs0 hs1 hN
  clear h hA hU
  obtain ⟨r, C⟩ := U
  obtain ⟨t, et⟩ : ∃ t, t = c.tok := ⟨_, rfl⟩
  rw [← et] at ht hs1
  clear et
  obtain ⟨A, hA⟩ : ∃ A, A = if c.take.isN then c.take.tok.tx else em := ⟨_, rfl⟩
  rw [← hA] at hn
  have HA := hide hA
  obtain ⟨X, hX⟩ : ∃ X, X = if c.take.isN then c.take.tok.ln else 0 := ⟨_, rfl⟩
  obtain ⟨Y, hY⟩ : ∃ Y, Y = if c.take.isN then c.take.tok.co else 0 := ⟨_, rfl⟩
  rw [← hX, ← hY] at hn
  clear hA hX hY
  unfold Tk.cells at ht
  unfold ptr at ht hn ha ⊢
  go_enter Tryz.func15, Tryz.ntmps15
  go_wp2_with fail
  refine ((unhide ht) _ ((unhide bA) _)).mono ?_
  rintro e w1 ⟨rfl, hc1, hk1⟩
  have hR1 := (hk1.block w.heap.size (by simp) (by omega)).trans (heap_alloc_new w _)
  have hz1 : w.heap.size < w1.heap.size := by have := hk1.size; simp at this; omega
  clear ht
  go_wp2_with fail
  have bT := fun o => show Below w1.heap.size w1 (w1.alloc o) from (Below.refl _ _).alloc (Nat.le_refl _) _
  refine ((unhide hn) _ (hc1.below (bT _))).mono ?_
  rintro e w2 ⟨rfl, hc2, hk2⟩
  have hT2 := (hk2.block w1.heap.size (by simp) (by omega)).trans (heap_alloc_new w1 _)
  have hR2 := (hk2.block w.heap.size (by simp; omega) (by omega)).trans (((bT _).block _ hz1).trans hR1)
  have hz2 : w1.heap.size < w2.heap.size := by have := hk2.size; simp at this; omega
  have hk12 := hk1.trans ((Kp.of (bT _)).trans hk2)
  clear hn
  go_wp2_with fail
  have bN := fun o => show Below w2.heap.size w2 (w2.alloc o) from (Below.refl _ _).alloc (Nat.le_refl _) _
  refine ((unhide ha) _ (hc2.below (bN _))).mono ?_
  rintro e w3 ⟨sl, rfl, hbp, hc3, hk3⟩
  have hz3 : w2.heap.size < w3.heap.size := by have := hk3.size; simp at this; omega
  have hN3 := (hk3.block w2.heap.size (by simp) (by omega)).trans (heap_alloc_new w2 _)
  have hT3 := (hk3.block w1.heap.size (by simp; omega) (by omega)).trans (((bN _).block _ hz2).trans hT2)
  have hR3 := (hk3.block w.heap.size (by simp; omega) (by omega)).trans (((bN _).block _ (by omega)).trans hR2)
  have HK := hide ((Kp.of ((unhide bA) _)).trans (hk12.trans ((Kp.of (bN _)).trans hk3)))
  have HC := hide hc3
  have HB := hide hbp
  have d0 : w3.cell? ⟨w2.heap.size, 0, none⟩ = some (.string A) := (dt.cell_cells hN3 0).trans rfl
  have d1 : w3.cell? ⟨w1.heap.size, 1, none⟩ = some (.int .i64 t.ln) := (dt.cell_cells hT3 1).trans rfl
  have d2 : w3.cell? ⟨w1.heap.size, 2, none⟩ = some (.int .i64 t.co) := (dt.cell_cells hT3 2).trans rfl
  have HT := hide (dt.there_cells hR3 (o := 0) (n := 4) (by decide))
  have hlo := hide (show w.heap.size < w2.heap.size ∧ w2.heap.size ≤ (w2.alloc (.cells #[.string A, .int .i64 X, .int .i64 Y] 85)).heap.size from ⟨by omega, by simp⟩)
  clear ha hk1 hk2 hk3 hk12 hc1 hc2 hc3 hbp bT bN hR1 hR2 hR3 hT2 hT3 hN3 bA
  cases r with
  | none =>
    have hs2 := hide ((unhide hs0) rfl)
    obtain rfl : sl = .slice none 0 0 := unhide HB
    clear hs0 hs1
    go_wp2_with (first
      | refine wpList_store_mid (by rfl) 50 _ _ (by rfl) w.heap.size 0 #[.string ⟨#[]⟩, .slice none 0 0, .int .i64 0, .int .i64 0] (by rfl) (by rfl) (unhide HT) infoDi (dt.one_cells (cs := [.string ⟨#[]⟩, .slice none 0 0, .int .i64 0, .int .i64 0]) (by rfl)) ?_)
    refine bodyPost_ret (rgn.result_row_tmp rfl _ _ w.heap.size 0 [.string ⟨#[]⟩, .slice none 0 0, .int .i64 0, .int .i64 0] _ rfl (World.rangeAt_setCells_same _ _ _ _ (unhide HT)) Tryz.underlying50 rfl infoDi) rfl ?_
    rw [unhide hs2]
    obtain ⟨a0, n0, c0, F0, e0, o0, nd0, rg0⟩ := dir_ow (t := 51) (w := w3.setCells w.heap.size 0 [.string ⟨#[]⟩, .slice none 0 0, .int .i64 0, .int .i64 0]) (lo := w.heap.size) (G := []) Grow.nil em 0 0
    simp only [Value.slice.injEq] at e0
    obtain ⟨rfl, rfl, rfl⟩ := e0
    exact ⟨_, F0, rfl, ⟨⟨_, _, _, _, _, _, rfl⟩, o0, nd0, rg0⟩, (unhide HC).out hne hnp _ _, (unhide HK).out (Nat.le_refl _) _ _⟩
  | some l =>
    have hs2 := hide ((unhide hs1) l rfl)
    have hNN := (unhide hN) rfl
    have hAe : A = c.take.tok.tx := by have := unhide HA; rw [hNN] at this; exact this
    have hAh := hide hAe
    obtain ⟨Gs, hgr⟩ := unhide HB
    obtain ⟨a, n, c', F, rfl, how, hnd, hrg⟩ := dir_ow hgr A t.ln t.co
    have HO := hide (And.intro how (And.intro hnd hrg))
    clear hs0 hs1 how hnd hrg hgr HB hAe hNN
    go_wp2_with (first
      | refine wpList_store_mid (by rfl) 50 _ _ (by rfl) w.heap.size 0 #[.string A, .slice a n c', .int .i64 t.ln, .int .i64 t.co] (by rfl) (by rfl) (unhide HT) infoDi (dt.one_cells (cs := [.string A, .slice a n c', .int .i64 t.ln, .int .i64 t.co]) (by rfl)) ?_)
    refine bodyPost_ret (rgn.result_row_tmp rfl _ _ w.heap.size 0 [.string A, .slice a n c', .int .i64 t.ln, .int .i64 t.co] _ rfl (World.rangeAt_setCells_same _ _ _ _ (unhide HT)) Tryz.underlying50 rfl infoDi) rfl ?_
    obtain ⟨how, hnd, hrg⟩ := unhide HO
    have hlo2 := unhide hlo
    rw [unhide hs2, ← unhide hAh]
    exact ⟨_, F, rfl, ⟨⟨_, _, _, _, _, _, rfl⟩, ow_out how (fun hb => by have := (hrg _ hb).1; omega) 0 _, hnd, fun b hb => ⟨by have := (hrg b hb).1; omega, by rw [dt.size_setCells]; exact (hrg b hb).2⟩⟩, (unhide HC).out hne hnp _ _, (unhide HK).out (Nat.le_refl _) _ _⟩
end Go.Proofs.YtdmfbahnhkdamaaGreat.cu
