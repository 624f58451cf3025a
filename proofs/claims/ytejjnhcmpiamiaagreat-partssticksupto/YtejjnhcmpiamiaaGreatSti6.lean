import Derived.Test.YtejjnhcmpiamiaaGreatSti5
import Derived.Test.YtejjnhcmpiamiaaGreatSti3
namespace Go.Proofs.YtejjnhcmpiamiaaGreat.cu
open Go.ChangeShapes Go.WideShapes Go.ChangeAt Go.RowKit
open ints (hide unhide)
open dt (Dt Kp RowAt Ow Grow)
set_option linter.unusedVariables false
set_option linter.unusedSimpArgs false
theorem CurAt.low {w w' : World} {B p lo : Nat} {c : Cu} (h : CurAt w B p c) (hb : Below lo w w') (h1 : B < lo) (h2 : p < lo) : CurAt w' B p c := by
  obtain ⟨cap, h3, h4, h5, h6⟩ := h.box
  exact ⟨h.ok, h.len, cap, (hb.block B h1).trans h3, h4, Nat.lt_of_lt_of_le h5 hb.size, fun i t ht j u hu => (dt.cell_blk (hb.block p h2) _).trans (h6 i t ht j u hu)⟩
theorem _root_.Go.Proofs.YtejjnhcmpiamiaaGreat.dt.Kp.low {B : Nat} {w w1 w2 : World} (h : Kp B w w1) (hb : Below w.heap.size w1 w2) : Kp B w w2 :=
  ⟨hb.os.trans h.os, hb.tape.trans h.tape, hb.output.trans h.output, Nat.le_trans h.size hb.size, fun k hk hB => (hb.block k hk).trans (h.block k hk hB)⟩
theorem infoLz : ∃ i z, Tryz.prog.info? 55 = some i ∧ i.zero = some z ∧ i.size = 7 ∧ i.bytes = 96 ∧ z.cells.size = 7 := by
  have hin : (Tryz.prog.info? 55).map (fun i => (i.bytes, i.size, i.zero.map (·.cells.size))) = some (96, 7, some 7) := by kernel_rfl
  cases hq : Tryz.prog.info? 55 with
  | none => simp [hq] at hin
  | some i =>
    simp [hq] at hin
    obtain ⟨h1, h2, z, hz, h3⟩ := hin
    exact ⟨i, z, rfl, hz, h2, h1, h3⟩
def BrkPL (r : Option (List Dt)) (lo : Nat) (w' : World) (sl : Value) : Prop := match r with | none => sl = .slice none 0 0 | some l => ∃ G, Grow 55 7 w' lo l sl G
set_option maxRecDepth 4000 in
set_option maxHeartbeats 4000000 in
theorem brkL_ok (E : Cu → Option Dt × Cu) (ct : Bool) (c : Cu) (left right : ByteArray) (hc0 : c.Ok) (hlen : c.ts.length ≤ 1099511627777) (hG : Goes E) (hE : ∀ cc : Cu, cc.Ok → cc.ts = c.ts → c.ix < cc.ix → LitAt E ct cc) (B p : Nat) (w : World) (h : CurAt w B p c) :
    Calls Tryz.prog 61 #[ptr B, .string left, .string right, .int .i64 0, .bool ct, .func (.func 32) #[ptr B] #[]] w fun e w' => ∃ sl, e = .returned (.tuple #[sl, .bool (brk E left right 0 c).1.isSome]) ∧ BrkPL (brk E left right 0 c).1 w.heap.size w' sl ∧ CurAt w' B p (brk E left right 0 c).2 ∧ Kp B w w' := by
  have en : ∀ args w, (callFunc 32 args).run Tryz.prog w = .ok (.enter 32 args) w := fun _ _ => rfl
  have ho := hide (open_ok B p c left w h)
  have hB := h.lt
  have hp := h.plt
  cases hO : c.opB left
  · have hs := hide (show brk E left right 0 c = (none, c.opn left) from by unfold brk; rw [hO]; rfl)
    rw [hO] at ho
    clear h hE
    unfold ptr at ho ⊢
    go_enter Tryz.func61, Tryz.ntmps61
    go_wp2_with fail
    refine (unhide ho).mono ?_
    rintro e w1 ⟨rfl, hc1, hk1⟩
    clear ho
    go_wp2_with fail
    go_ret2
    rw [unhide hs]
    exact ⟨_, rfl, rfl, hc1, hk1⟩
  · have hst := opn_stp hc0 left
    have hoi := opn_ix hO
    obtain ⟨R, hR⟩ : ∃ R, R = brkF E right 0 c.ts.length [] (c.opn left) := ⟨_, rfl⟩
    have hs := hide (show brk E left right 0 c = R from by unfold brk; rw [hO, hR]; rfl)
    rw [hO] at ho
    have HR := hide hR.symm
    clear h hR hO
    have hcl := hide (fun W (cc : Cu) (hc : CurAt W B p cc) => close_ok B p cc right W hc)
    have hip := hide (fun W (cc : Cu) (hc : CurAt W B p cc) => isPunct_ok B p cc right W hc)
    have hEE := hide (fun (cc : Cu) (h1 : cc.Ok) (h2 : cc.ts = c.ts) (h3 : c.ix < cc.ix) => hE cc h1 h2 h3 B p)
    clear hE
    unfold ptr at ho hcl hip hEE ⊢
    go_enter Tryz.func61, Tryz.ntmps61
    go_wp2_with fail
    refine (unhide ho).mono ?_
    rintro e w1 ⟨rfl, hc1, hk1⟩
    clear ho
    have hz1 := hk1.size
    go_wp2_with fail
    go_loopg [14] c.ts.length (fun g sl wr => ∃ (l : List Dt) (cc : Cu) (Gs : List Nat), Hid (brkF E right 0 g l cc = R) ∧ CurAt wr B p cc ∧ Hid (Grow 55 7 wr w.heap.size l sl Gs) ∧ Kp B w wr ∧ Hid (cc.ts = c.ts) ∧ c.ts.length ≤ g + cc.ix ∧ l.length + 1 + c.ix ≤ cc.ix)
    case atStart => exact ⟨[], c.opn left, [], HR, hc1, hide Grow.nil, hk1, hide hst.ts, Nat.le_add_right _ _, by rw [hoi]; simp; omega⟩
    case round =>
      obtain ⟨l, cc, Gs, hrun, hcc, hgr, hkr, hts, hfu, hll⟩ := hrel
      have hixl := hcc.ok.lt
      rw [unhide hts] at hixl
      obtain ⟨al, cl, hsl⟩ := (unhide hgr).form
      subst hsl
      have hlz : ¬ ((l.length : Int) < 0) := by omega
      obtain ⟨g', rfl⟩ : ∃ g', gk = g' + 1 := ⟨gk - 1, by omega⟩
      have hip2 := hide ((unhide hip) wr cc hcc)
      go_wp2_with fail
      refine (unhide hip2).mono ?_
      rintro e w2 ⟨rfl, b2⟩
      have hc2 := hcc.below b2
      have hgr2 := hide ((unhide hgr).keep b2.size (fun b hb _ => b2.block b hb))
      have hk2 := hkr.trans (Kp.of b2)
      cases hQ : cc.isP right
      · have hrun2 := hide (show (match (E cc).1 with | none => (none, (E cc).2) | some d => brkF E right 0 g' (l ++ [d]) (E cc).2) = R from by
          have e := unhide hrun
          rw [brkF, if_pos (.inr hQ)] at e
          exact e)
        have hgo := hG cc hcc.ok
        have hcall := hide ((unhide hEE) cc hcc.ok (unhide hts) (by omega) w2 hc2)
        go_wp2_with fail
        refine (unhide hcall).mono ?_
        rintro e w3 ⟨cs, F, rfl, hpo, hc3, hk3⟩
        obtain ⟨U, hU⟩ : ∃ U, U = E cc := ⟨_, rfl⟩
        rw [← hU] at hrun2 hgo hpo hc3 ⊢
        obtain ⟨r, C⟩ := U
        obtain ⟨k, tx, bl, ai, ni, ci, af, nf, cf, ln, co, rfl⟩ := hpo.shape
        clear hcall hU hip2 hrun
        have HP := hide hpo
        clear hpo
        have HC3 := hide hc3
        have HK3 := hide hk3
        have hz3 := hk3.size
        cases r with
        | none =>
          have hrun3 := hide (show (none, C) = R from unhide hrun2)
          go_wp2_with fail
          go_ret2
          rw [unhide hs, ← unhide hrun3]
          exact ⟨_, rfl, rfl, (unhide HC3).below ((Below.refl _ _).alloc (Nat.le_refl _) _), (hk2.trans (unhide HK3)).trans (Kp.of ((Below.refl _ _).alloc (Nat.le_refl _) _))⟩
        | some d =>
          have hrun3 := hide (show brkF E right 0 g' (l ++ [d]) C = R from unhide hrun2)
          have hix3 : cc.ix < C.ix := hgo.2 rfl
          have hts3 := hgo.1.ts
          have hlt3 := hgo.1.ok.lt
          rw [hts3, unhide hts] at hlt3
          have hgr3 := (unhide hgr2).kp (unhide HK3) hB
          obtain ⟨it, zt, q1, q2, q3, q4, q5⟩ := infoLz
          have HQ := hide (And.intro q1 (And.intro q2 (And.intro q3 (And.intro q4 q5))))
          clear q1 q2 q3 q4 q5
          obtain ⟨xss, hr3, hol3, hx3⟩ := hgr3.row
          have hr4 := hide (fun o => World.ownsRow.alloc hr3 o)
          have hbyt := hide (show (l.length + 1) * 96 ≤ 140737488355328 ∧ l.length + 1 ≤ maxLen from ⟨by omega, by unfold maxLen; omega⟩)
          have hsz4 := hide (fun o => show w.heap.size ≤ (w3.alloc o).heap.size from by have := hz3; have := b2.size; have := hkr.size; simp; omega)
          have hone := hide ((unhide HP).own.one)
          have HG := hide (And.intro hgr3 (And.intro hol3 hx3))
          have hTS := hide hts3
          clear hrun2 hgo hts3 hgr3 hr3 hol3 hx3
          go_wp2_with (first
            | (at_builtin; refine dt.wp_snoc (by rfl) _ _ (by rfl) Tryz.underlying52 (unhide HQ).1 (unhide HQ).2.1 (unhide HQ).2.2.1 (unhide HQ).2.2.2.1 (unhide HQ).2.2.2.2 (by omega) w.heap.size l.length xss.flatten _ (by rfl) ((unhide hr4) _) [.int .i64 k, .string tx, .bool bl, .slice ai ni ci, .slice af nf cf, .int .i64 ln, .int .i64 co] (by rfl) (unhide hone) (w3.heap.size + 1) (by simp) (by rfl) (unhide hbyt).1 (unhide hbyt).2 ((unhide hsz4) _) ?_; intro sl' w7 hr7 b7 hold7 hat7; have H7 := hide (And.intro hr7 (And.intro b7 (And.intro hold7 hat7))); clear hr7 b7 hold7 hat7))
          go_roundg g'
          case rel =>
            obtain ⟨hr7, b7, hold7, hat7⟩ := unhide H7
            obtain ⟨hgr3, hol3, hx3⟩ := unhide HG
            have bA : Below w3.heap.size w3 (w3.alloc (.cells #[.int .i64 k, .string tx, .bool bl, .slice ai ni ci, .slice af nf cf, .int .i64 ln, .int .i64 co] 55)) := (Below.refl _ _).alloc (Nat.le_refl _) _
            have hgr4 := hgr3.keep bA.size (fun b hb _ => bA.block b hb)
            have hown := fun b (hb : (Value.slice al l.length cl).ownBlock = some b) => (let ⟨_, hr, _⟩ := (unhide hgr2).row; (hr.lt b hb).2)
            have hF3 : ∀ b ∈ F, w2.heap.size ≤ b ∧ b < w3.heap.size := (unhide HP).rng
            have hsz : w.heap.size ≤ w2.heap.size := hk2.size
            have hmore := hgr4.more (dt.OwL.agree (fun w w' e cs F => dt.Ow.agree e cs F) (fun b hb j => dt.cell_blk (bA.block b (hgr3.rng b hb).2) j) hol3) hx3 (ow_below (unhide HP).own bA (fun b hb => (hF3 b hb).2)) (unhide HP).nodup (fun b hb => ⟨by have := (hF3 b hb).1; omega, by have := (hF3 b hb).2; have := bA.size; omega, fun hm => by have := ((unhide hgr2).rng b hm).2; have := (hF3 b hb).1; omega, fun e => by have := hown b e; have := (hF3 b hb).1; omega⟩) (by rfl) hr7 (by have := (hr7.lt); have := b7.size; exact this) hold7 hat7
            have hBs : B < w3.heap.size := by omega
            have hCA := (unhide HC3).below bA
            refine ⟨l ++ [d], C, Gs ++ F, hrun3, ?_, hide hmore, ?_, hide ((unhide hTS).trans (unhide hts)), by omega, by rw [List.length_append]; simp; omega⟩
            · exact hCA.low b7 hB hp
            · exact ((hk2.trans (unhide HK3)).trans (Kp.of bA)).low b7
          case measure => exact Nat.lt_succ_self _
      · have hrun2 := hide (show (some l, cc.cls right) = R from by
          have e := unhide hrun
          rw [brkF, if_neg (fun e => by rcases e with e | e; omega; rw [hQ] at e; cases e)] at e
          exact e)
        have hcl2 := hide ((unhide hcl) w2 cc hc2)
        rw [hQ] at hcl2
        clear hrun hip2
        go_wp2_with fail
        refine (unhide hcl2).mono ?_
        rintro e w3 ⟨rfl, hc3, hk3⟩
        clear hcl2
        go_wp2_with fail
        go_ret2
        rw [unhide hs, ← unhide hrun2]
        exact ⟨_, rfl, ⟨Gs, (unhide hgr2).kp hk3 hB⟩, hc3, hk2.trans hk3⟩
end Go.Proofs.YtejjnhcmpiamiaaGreat.cu
namespace Go.Proofs.YtejjnhcmpiamiaaGreat.cu
open Go.ChangeShapes Go.WideShapes Go.ChangeAt Go.RowKit
open ints (hide unhide)
open dt (Dt Kp RowAt Ow Grow)
set_option linter.unusedVariables false
set_option linter.unusedSimpArgs false
theorem infoFz : ∃ i z, Tryz.prog.info? 63 = some i ∧ i.zero = some z ∧ i.size = 10 ∧ i.bytes = 128 ∧ z.cells.size = 10 := by
  have hin : (Tryz.prog.info? 63).map (fun i => (i.bytes, i.size, i.zero.map (·.cells.size))) = some (128, 10, some 10) := by kernel_rfl
  cases hq : Tryz.prog.info? 63 with
  | none => simp [hq] at hin
  | some i =>
    simp [hq] at hin
    obtain ⟨h1, h2, z, hz, h3⟩ := hin
    exact ⟨i, z, rfl, hz, h2, h1, h3⟩
def BrkPF (r : Option (List Dt)) (lo : Nat) (w' : World) (sl : Value) : Prop := match r with | none => sl = .slice none 0 0 | some l => ∃ G, Grow 63 10 w' lo l sl G
set_option maxRecDepth 4000 in
set_option maxHeartbeats 4000000 in
theorem brkF_ok' (E : Cu → Option Dt × Cu) (ct : Bool) (c : Cu) (left right : ByteArray) (hc0 : c.Ok) (hlen : c.ts.length ≤ 1099511627777) (hG : Goes E) (hE : ∀ cc : Cu, cc.Ok → cc.ts = c.ts → c.ix < cc.ix → FldAt 63 E ct cc) (B p : Nat) (w : World) (h : CurAt w B p c) :
    Calls Tryz.prog 62 #[ptr B, .string left, .string right, .int .i64 0, .bool ct, .func (.func 63) #[ptr B] #[]] w fun e w' => ∃ sl, e = .returned (.tuple #[sl, .bool (brk E left right 0 c).1.isSome]) ∧ BrkPF (brk E left right 0 c).1 w.heap.size w' sl ∧ CurAt w' B p (brk E left right 0 c).2 ∧ Kp B w w' := by
  have en : ∀ args w, (callFunc 63 args).run Tryz.prog w = .ok (.enter 63 args) w := fun _ _ => rfl
  have ho := hide (open_ok B p c left w h)
  have hB := h.lt
  have hp := h.plt
  cases hO : c.opB left
  · have hs := hide (show brk E left right 0 c = (none, c.opn left) from by unfold brk; rw [hO]; rfl)
    rw [hO] at ho
    clear h hE
    unfold ptr at ho ⊢
    go_enter Tryz.func62, Tryz.ntmps62
    go_wp2_with fail
    refine (unhide ho).mono ?_
    rintro e w1 ⟨rfl, hc1, hk1⟩
    clear ho
    go_wp2_with fail
    go_ret2
    rw [unhide hs]
    exact ⟨_, rfl, rfl, hc1, hk1⟩
  · have hst := opn_stp hc0 left
    have hoi := opn_ix hO
    obtain ⟨R, hR⟩ : ∃ R, R = brkF E right 0 c.ts.length [] (c.opn left) := ⟨_, rfl⟩
    have hs := hide (show brk E left right 0 c = R from by unfold brk; rw [hO, hR]; rfl)
    rw [hO] at ho
    have HR := hide hR.symm
    clear h hR hO
    have hcl := hide (fun W (cc : Cu) (hc : CurAt W B p cc) => close_ok B p cc right W hc)
    have hip := hide (fun W (cc : Cu) (hc : CurAt W B p cc) => isPunct_ok B p cc right W hc)
    have hEE := hide (fun (cc : Cu) (h1 : cc.Ok) (h2 : cc.ts = c.ts) (h3 : c.ix < cc.ix) => hE cc h1 h2 h3 B p)
    clear hE
    unfold ptr at ho hcl hip hEE ⊢
    go_enter Tryz.func62, Tryz.ntmps62
    go_wp2_with fail
    refine (unhide ho).mono ?_
    rintro e w1 ⟨rfl, hc1, hk1⟩
    clear ho
    have hz1 := hk1.size
    go_wp2_with fail
    go_loopg [14] c.ts.length (fun g sl wr => ∃ (l : List Dt) (cc : Cu) (Gs : List Nat), Hid (brkF E right 0 g l cc = R) ∧ CurAt wr B p cc ∧ Hid (Grow 63 10 wr w.heap.size l sl Gs) ∧ Kp B w wr ∧ Hid (cc.ts = c.ts) ∧ c.ts.length ≤ g + cc.ix ∧ l.length + 1 + c.ix ≤ cc.ix)
    case atStart => exact ⟨[], c.opn left, [], HR, hc1, hide Grow.nil, hk1, hide hst.ts, Nat.le_add_right _ _, by rw [hoi]; simp; omega⟩
    case round =>
      obtain ⟨l, cc, Gs, hrun, hcc, hgr, hkr, hts, hfu, hll⟩ := hrel
      have hixl := hcc.ok.lt
      rw [unhide hts] at hixl
      obtain ⟨al, cl, hsl⟩ := (unhide hgr).form
      subst hsl
      have hlz : ¬ ((l.length : Int) < 0) := by omega
      obtain ⟨g', rfl⟩ : ∃ g', gk = g' + 1 := ⟨gk - 1, by omega⟩
      have hip2 := hide ((unhide hip) wr cc hcc)
      go_wp2_with fail
      refine (unhide hip2).mono ?_
      rintro e w2 ⟨rfl, b2⟩
      have hc2 := hcc.below b2
      have hgr2 := hide ((unhide hgr).keep b2.size (fun b hb _ => b2.block b hb))
      have hk2 := hkr.trans (Kp.of b2)
      cases hQ : cc.isP right
      · have hrun2 := hide (show (match (E cc).1 with | none => (none, (E cc).2) | some d => brkF E right 0 g' (l ++ [d]) (E cc).2) = R from by
          have e := unhide hrun
          rw [brkF, if_pos (.inr hQ)] at e
          exact e)
        have hgo := hG cc hcc.ok
        have hcall := hide ((unhide hEE) cc hcc.ok (unhide hts) (by omega) w2 hc2)
        go_wp2_with fail
        refine (unhide hcall).mono ?_
        rintro e w3 ⟨cs, F, rfl, hpo, hc3, hk3⟩
        obtain ⟨U, hU⟩ : ∃ U, U = E cc := ⟨_, rfl⟩
        rw [← hU] at hrun2 hgo hpo hc3 ⊢
        obtain ⟨r, C⟩ := U
        obtain ⟨nm, ds, X, Y, ⟨k, tx, bl, ai, ni, ci, af, nf, cf, ln, co, rfl⟩, rfl⟩ := hpo.shape
        clear hcall hU hip2 hrun
        have HP := hide hpo
        clear hpo
        have HC3 := hide hc3
        have HK3 := hide hk3
        have hz3 := hk3.size
        cases r with
        | none =>
          have hrun3 := hide (show (none, C) = R from unhide hrun2)
          go_wp2_with fail
          go_ret2
          rw [unhide hs, ← unhide hrun3]
          exact ⟨_, rfl, rfl, (unhide HC3).below ((Below.refl _ _).alloc (Nat.le_refl _) _), (hk2.trans (unhide HK3)).trans (Kp.of ((Below.refl _ _).alloc (Nat.le_refl _) _))⟩
        | some d =>
          have hrun3 := hide (show brkF E right 0 g' (l ++ [d]) C = R from unhide hrun2)
          have hix3 : cc.ix < C.ix := hgo.2 rfl
          have hts3 := hgo.1.ts
          have hlt3 := hgo.1.ok.lt
          rw [hts3, unhide hts] at hlt3
          have hgr3 := (unhide hgr2).kp (unhide HK3) hB
          obtain ⟨it, zt, q1, q2, q3, q4, q5⟩ := infoFz
          have HQ := hide (And.intro q1 (And.intro q2 (And.intro q3 (And.intro q4 q5))))
          clear q1 q2 q3 q4 q5
          obtain ⟨xss, hr3, hol3, hx3⟩ := hgr3.row
          have hr4 := hide (fun o => World.ownsRow.alloc hr3 o)
          have hbyt := hide (show (l.length + 1) * 128 ≤ 140737488355328 ∧ l.length + 1 ≤ maxLen from ⟨by omega, by unfold maxLen; omega⟩)
          have hsz4 := hide (fun o => show w.heap.size ≤ (w3.alloc o).heap.size from by have := hz3; have := b2.size; have := hkr.size; simp; omega)
          have hone := hide ((unhide HP).own.one)
          have HG := hide (And.intro hgr3 (And.intro hol3 hx3))
          have hTS := hide hts3
          clear hrun2 hgo hts3 hgr3 hr3 hol3 hx3
          go_wp2_with (first
            | (at_builtin; refine dt.wp_snoc (by rfl) _ _ (by rfl) Tryz.underlying53 (unhide HQ).1 (unhide HQ).2.1 (unhide HQ).2.2.1 (unhide HQ).2.2.2.1 (unhide HQ).2.2.2.2 (by omega) w.heap.size l.length xss.flatten _ (by rfl) ((unhide hr4) _) [.string nm, .int .i64 k, .string tx, .bool bl, .slice ai ni ci, .slice af nf cf, .int .i64 ln, .int .i64 co, .int .i64 X, .int .i64 Y] (by rfl) (unhide hone) (w3.heap.size + 1) (by simp) (by rfl) (unhide hbyt).1 (unhide hbyt).2 ((unhide hsz4) _) ?_; intro sl' w7 hr7 b7 hold7 hat7; have H7 := hide (And.intro hr7 (And.intro b7 (And.intro hold7 hat7))); clear hr7 b7 hold7 hat7))
          go_roundg g'
          case rel =>
            obtain ⟨hr7, b7, hold7, hat7⟩ := unhide H7
            obtain ⟨hgr3, hol3, hx3⟩ := unhide HG
            have bA : Below w3.heap.size w3 (w3.alloc (.cells #[.string nm, .int .i64 k, .string tx, .bool bl, .slice ai ni ci, .slice af nf cf, .int .i64 ln, .int .i64 co, .int .i64 X, .int .i64 Y] 63)) := (Below.refl _ _).alloc (Nat.le_refl _) _
            have hgr4 := hgr3.keep bA.size (fun b hb _ => bA.block b hb)
            have hown := fun b (hb : (Value.slice al l.length cl).ownBlock = some b) => (let ⟨_, hr, _⟩ := (unhide hgr2).row; (hr.lt b hb).2)
            have hF3 : ∀ b ∈ F, w2.heap.size ≤ b ∧ b < w3.heap.size := (unhide HP).rng
            have hsz : w.heap.size ≤ w2.heap.size := hk2.size
            have hmore := hgr4.more (dt.OwL.agree (fun w w' e cs F => dt.Ow.agree e cs F) (fun b hb j => dt.cell_blk (bA.block b (hgr3.rng b hb).2) j) hol3) hx3 (ow_below (unhide HP).own bA (fun b hb => (hF3 b hb).2)) (unhide HP).nodup (fun b hb => ⟨by have := (hF3 b hb).1; omega, by have := (hF3 b hb).2; have := bA.size; omega, fun hm => by have := ((unhide hgr2).rng b hm).2; have := (hF3 b hb).1; omega, fun e => by have := hown b e; have := (hF3 b hb).1; omega⟩) (by rfl) hr7 (by have := (hr7.lt); have := b7.size; exact this) hold7 hat7
            have hBs : B < w3.heap.size := by omega
            have hCA := (unhide HC3).below bA
            refine ⟨l ++ [d], C, Gs ++ F, hrun3, ?_, hide hmore, ?_, hide ((unhide hTS).trans (unhide hts)), by omega, by rw [List.length_append]; simp; omega⟩
            · exact hCA.low b7 hB hp
            · exact ((hk2.trans (unhide HK3)).trans (Kp.of bA)).low b7
          case measure => exact Nat.lt_succ_self _
      · have hrun2 := hide (show (some l, cc.cls right) = R from by
          have e := unhide hrun
          rw [brkF, if_neg (fun e => by rcases e with e | e; omega; rw [hQ] at e; cases e)] at e
          exact e)
        have hcl2 := hide ((unhide hcl) w2 cc hc2)
        rw [hQ] at hcl2
        clear hrun hip2
        go_wp2_with fail
        refine (unhide hcl2).mono ?_
        rintro e w3 ⟨rfl, hc3, hk3⟩
        clear hcl2
        go_wp2_with fail
        go_ret2
        rw [unhide hs, ← unhide hrun2]
        exact ⟨_, rfl, ⟨Gs, (unhide hgr2).kp hk3 hB⟩, hc3, hk2.trans hk3⟩
end Go.Proofs.YtejjnhcmpiamiaaGreat.cu
namespace Go.Proofs.YtejjnhcmpiamiaaGreat.cu
open Go.ChangeShapes Go.WideShapes Go.ChangeAt Go.RowKit
open ints (hide unhide)
open dt (Dt Kp RowAt Ow Grow)
set_option linter.unusedVariables false
set_option linter.unusedSimpArgs false
def LitFn (f : Nat) (L : Cu → Option Dt × Cu) (ct : Bool) (c : Cu) : Prop := ∀ (B p : Nat) (w : World), CurAt w B p c → Calls Tryz.prog f #[ptr B, .bool ct] w fun e w' => ∃ cs F, e = .returned (.tuple #[.agg cs.toArray, .bool (L c).1.isSome]) ∧ LitPost ((L c).1.getD zeroD) w w' cs F ∧ CurAt w' B p (L c).2 ∧ Kp B w w'
theorem list_ow {t : TypeId} {w : World} {lo : Nat} {l : List Dt} {sl : Value} {G : List Nat} (h : Grow t 7 w lo l sl G) (ln co : Int) : ∃ a n c F, sl = .slice a n c ∧ Ow w (litD 8 em false (Dt.of l) .nil ln co) [.int .i64 8, .string ⟨#[]⟩, .bool false, .slice a n c, .slice none 0 0, .int .i64 ln, .int .i64 co] F ∧ F.Nodup ∧ ∀ b ∈ F, lo ≤ b ∧ b < w.heap.size := by
  obtain ⟨a, n, c, F, rfl, h1, h2, h3, h4, h5, h6, h7⟩ := h.shut
  refine ⟨a, n, c, F, rfl, ?_, h4, h5⟩
  unfold litD
  unfold Ow
  refine ⟨_, rfl, rfl, ?_⟩
  unfold Ow
  refine ⟨_, rfl, rfl, ?_⟩
  unfold Ow
  refine ⟨_, rfl, rfl, ?_⟩
  unfold Ow
  refine ⟨a, n, c, _, F, [], rfl, h1, h2, h3, h7, ?_, by simp⟩
  unfold Ow
  refine ⟨none, 0, 0, _, [], [], rfl, Nat.le_refl _, Nat.zero_le _, fun _ => rfl, .inl ⟨rfl, rfl, rfl, rfl⟩, pos_ow _ _ _, rfl⟩
set_option maxRecDepth 4000 in
set_option maxHeartbeats 2000000 in
theorem list_ok (L : Cu → Option Dt × Cu) (ct : Bool) (c : Cu) (hc0 : c.Ok) (hlen : c.ts.length ≤ 1099511627777) (hG : Goes L) (hE : ∀ cc : Cu, cc.Ok → cc.ts = c.ts → c.ix < cc.ix → LitAt L ct cc) : LitFn 50 (listS L) ct c := by
  intro B p w h
  have ht := hide (fun W (bb : Below w.heap.size w W) => token_ok B p c W (h.below bb))
  have hb := hide (fun W (bb : Below w.heap.size w W) => brkL_ok L ct c bLb bRb hc0 hlen hG hE B p W (h.below bb))
  have hlt := h.lt
  have hplt := h.plt
  have hne : B ≠ w.heap.size := by omega
  have hnp : p ≠ w.heap.size := by omega
  have bA := hide (fun o => show Below w.heap.size w (w.alloc o) from (Below.refl _ _).alloc (Nat.le_refl _) _)
  have hZ := hide (fun o W (hk : Kp B (w.alloc o) W) => show W.heap[w.heap.size]? = some o from (hk.block w.heap.size (by simp) (by omega)).trans (heap_alloc_new w o))
  have hs0 := hide (show (brk L bLb bRb 0 c).1 = none → listS L c = (none, (brk L bLb bRb 0 c).2) from fun e => by unfold listS; rw [e])
  have hs1 := hide (show ∀ l, (brk L bLb bRb 0 c).1 = some l → listS L c = (some (litD 8 em false (Dt.of l) .nil c.tok.ln c.tok.co), (brk L bLb bRb 0 c).2) from fun l e => by unfold listS; rw [e])
  have hf2 := fld_pos c.tok
  obtain ⟨t, et⟩ : ∃ t, t = c.tok := ⟨_, rfl⟩
  rw [← et] at ht hs1 hf2
  obtain ⟨U, hU⟩ : ∃ U, U = brk L bLb bRb 0 c := ⟨_, rfl⟩
  rw [← hU] at hb hs0 hs1
  clear h hU et hE
  obtain ⟨r, C⟩ := U
  unfold Tk.cells at ht
  unfold ptr at ht hb ⊢
  go_enter Tryz.func50, Tryz.ntmps50
  go_wp2_with fail
  refine ((unhide ht) _ ((unhide bA) _)).mono ?_
  rintro e w1 ⟨rfl, b1⟩
  have hz1 : w.heap.size < w1.heap.size := by have := b1.size; simp at this; omega
  have bw1 := ((unhide bA) _).trans (b1.mono ((unhide bA) _).size)
  go_wp2_with fail
  refine ((unhide hb) _ (bw1.alloc bw1.size _)).mono ?_
  rintro e w2 ⟨sl, rfl, hbp, hc2, hk2⟩
  have hD2 := (hk2.block w1.heap.size (by simp) (by omega)).trans (heap_alloc_new w1 _)
  have hk12 := (Kp.of b1).trans ((Kp.of ((Below.refl _ _).alloc (Nat.le_refl _) _)).trans hk2)
  have hR2 := (unhide hZ) _ w2 hk12
  have hz2 : w1.heap.size < w2.heap.size := by have := hk2.size; simp at this; omega
  have d0 : w2.cell? ⟨w1.heap.size, 0, none⟩ = some (.int .i64 t.ln) := (dt.cell_cells hD2 0).trans rfl
  have d1 : w2.cell? ⟨w1.heap.size, 1, none⟩ = some (.int .i64 t.co) := (dt.cell_cells hD2 1).trans rfl
  have HT := hide (dt.there_cells hR2 (o := 0) (n := 7) (by decide))
  have HK := hide ((Kp.of ((unhide bA) _)).trans hk12)
  have HC := hide hc2
  have HB := hide hbp
  have hloZ := hide (show w.heap.size < (w1.alloc (.cells #[.int .i64 t.ln, .int .i64 t.co] 30)).heap.size from by simp; omega)
  clear ht hb hk2 hk12 hc2 hZ bA hR2 hD2 hbp bw1
  cases r with
  | none =>
    have hs2 := hide ((unhide hs0) rfl)
    obtain rfl : sl = .slice none 0 0 := unhide HB
    clear hs0 hs1
    go_wp2_with (first
      | refine wpList_store_mid (by rfl) 55 _ _ (by rfl) w.heap.size 0 #[.int .i64 0, .string ⟨#[]⟩, .bool false, .slice none 0 0, .slice none 0 0, .int .i64 0, .int .i64 0] (by rfl) (by rfl) (unhide HT) infoLt (dt.one_cells (cs := [.int .i64 0, .string ⟨#[]⟩, .bool false, .slice none 0 0, .slice none 0 0, .int .i64 0, .int .i64 0]) (by rfl)) ?_)
    refine bodyPost_ret (rgn.result_row_tmp rfl _ _ w.heap.size 0 [.int .i64 0, .string ⟨#[]⟩, .bool false, .slice none 0 0, .slice none 0 0, .int .i64 0, .int .i64 0] _ rfl (World.rangeAt_setCells_same _ _ _ _ (unhide HT)) Tryz.underlying55 rfl infoLt) rfl ?_
    rw [unhide hs2]
    exact ⟨_, [], rfl, ⟨leaf_shape 0 em false 0 0, leaf_ow _ 0 em false 0 0, List.nodup_nil, by simp⟩, (unhide HC).out hne hnp _ _, (unhide HK).out (Nat.le_refl _) _ _⟩
  | some l =>
    have hs2 := hide ((unhide hs1) l rfl)
    obtain ⟨Gs, hgr⟩ := unhide HB
    obtain ⟨a, n, c', F, rfl, how, hnd, hrg⟩ := list_ow hgr t.ln t.co
    have HO := hide (And.intro how (And.intro hnd hrg))
    clear hs0 hs1 hgr how hnd hrg HB
    go_wp2_with (first
      | refine wpList_store_mid (by rfl) 55 _ _ (by rfl) w.heap.size 0 #[.int .i64 8, .string ⟨#[]⟩, .bool false, .slice a n c', .slice none 0 0, .int .i64 t.ln, .int .i64 t.co] (by rfl) (by rfl) (unhide HT) infoLt (dt.one_cells (cs := [.int .i64 8, .string ⟨#[]⟩, .bool false, .slice a n c', .slice none 0 0, .int .i64 t.ln, .int .i64 t.co]) (by rfl)) ?_)
    refine bodyPost_ret (rgn.result_row_tmp rfl _ _ w.heap.size 0 [.int .i64 8, .string ⟨#[]⟩, .bool false, .slice a n c', .slice none 0 0, .int .i64 t.ln, .int .i64 t.co] _ rfl (World.rangeAt_setCells_same _ _ _ _ (unhide HT)) Tryz.underlying55 rfl infoLt) rfl ?_
    rw [unhide hs2]
    obtain ⟨how, hnd, hrg⟩ := unhide HO
    exact ⟨_, F, rfl, ⟨⟨_, _, _, _, _, _, _, _, _, _, _, rfl⟩, ow_out how (fun hm => by have := (hrg _ hm).1; have := unhide hloZ; omega) _ _, hnd, fun b hb => ⟨by have := (hrg b hb).1; have := unhide hloZ; omega, by rw [dt.size_setCells]; exact (hrg b hb).2⟩⟩, (unhide HC).out hne hnp _ _, (unhide HK).out (Nat.le_refl _) _ _⟩
theorem obj_ow {t : TypeId} {w : World} {lo : Nat} {l : List Dt} {sl : Value} {G : List Nat} (h : Grow t 10 w lo l sl G) (ln co : Int) : ∃ a n c F, sl = .slice a n c ∧ Ow w (litD 9 em false .nil (Dt.of l) ln co) [.int .i64 9, .string ⟨#[]⟩, .bool false, .slice none 0 0, .slice a n c, .int .i64 ln, .int .i64 co] F ∧ F.Nodup ∧ ∀ b ∈ F, lo ≤ b ∧ b < w.heap.size := by
  obtain ⟨a, n, c, F, rfl, h1, h2, h3, h4, h5, h6, h7⟩ := h.shut
  refine ⟨a, n, c, F, rfl, ?_, h4, h5⟩
  unfold litD
  unfold Ow
  refine ⟨_, rfl, rfl, ?_⟩
  unfold Ow
  refine ⟨_, rfl, rfl, ?_⟩
  unfold Ow
  refine ⟨_, rfl, rfl, ?_⟩
  unfold Ow
  refine ⟨none, 0, 0, _, [], F, rfl, Nat.le_refl _, Nat.zero_le _, fun _ => rfl, .inl ⟨rfl, rfl, rfl, rfl⟩, ?_, rfl⟩
  unfold Ow
  exact ⟨a, n, c, _, F, [], rfl, h1, h2, h3, h7, pos_ow _ _ _, by simp⟩
set_option maxRecDepth 4000 in
set_option maxHeartbeats 2000000 in
theorem obj_ok (L : Cu → Option Dt × Cu) (ct : Bool) (c : Cu) (hc0 : c.Ok) (hlen : c.ts.length ≤ 1099511627777) (hG : Goes L) (hE : ∀ cc : Cu, cc.Ok → cc.ts = c.ts → c.ix < cc.ix → FldAt 63 (argS L) ct cc) : LitFn 51 (objS L) ct c := by
  intro B p w h
  have ht := hide (fun W (bb : Below w.heap.size w W) => token_ok B p c W (h.below bb))
  have hb := hide (fun W (bb : Below w.heap.size w W) => brkF_ok' (argS L) ct c bLc bRc hc0 hlen (argS_goes hG) hE B p W (h.below bb))
  have hlt := h.lt
  have hplt := h.plt
  have hne : B ≠ w.heap.size := by omega
  have hnp : p ≠ w.heap.size := by omega
  have bA := hide (fun o => show Below w.heap.size w (w.alloc o) from (Below.refl _ _).alloc (Nat.le_refl _) _)
  have hZ := hide (fun o W (hk : Kp B (w.alloc o) W) => show W.heap[w.heap.size]? = some o from (hk.block w.heap.size (by simp) (by omega)).trans (heap_alloc_new w o))
  have hs0 := hide (show (brk (argS L) bLc bRc 0 c).1 = none → objS L c = (none, (brk (argS L) bLc bRc 0 c).2) from fun e => by unfold objS; rw [e])
  have hs1 := hide (show ∀ l, (brk (argS L) bLc bRc 0 c).1 = some l → objS L c = (some (litD 9 em false .nil (Dt.of l) c.tok.ln c.tok.co), (brk (argS L) bLc bRc 0 c).2) from fun l e => by unfold objS; rw [e])
  have hf2 := fld_pos c.tok
  obtain ⟨t, et⟩ : ∃ t, t = c.tok := ⟨_, rfl⟩
  rw [← et] at ht hs1 hf2
  obtain ⟨U, hU⟩ : ∃ U, U = brk (argS L) bLc bRc 0 c := ⟨_, rfl⟩
  rw [← hU] at hb hs0 hs1
  clear h hU et hE
  obtain ⟨r, C⟩ := U
  unfold Tk.cells at ht
  unfold ptr at ht hb ⊢
  go_enter Tryz.func51, Tryz.ntmps51
  go_wp2_with fail
  refine ((unhide ht) _ ((unhide bA) _)).mono ?_
  rintro e w1 ⟨rfl, b1⟩
  have hz1 : w.heap.size < w1.heap.size := by have := b1.size; simp at this; omega
  have bw1 := ((unhide bA) _).trans (b1.mono ((unhide bA) _).size)
  go_wp2_with fail
  refine ((unhide hb) _ (bw1.alloc bw1.size _)).mono ?_
  rintro e w2 ⟨sl, rfl, hbp, hc2, hk2⟩
  have hD2 := (hk2.block w1.heap.size (by simp) (by omega)).trans (heap_alloc_new w1 _)
  have hk12 := (Kp.of b1).trans ((Kp.of ((Below.refl _ _).alloc (Nat.le_refl _) _)).trans hk2)
  have hR2 := (unhide hZ) _ w2 hk12
  have hz2 : w1.heap.size < w2.heap.size := by have := hk2.size; simp at this; omega
  have d0 : w2.cell? ⟨w1.heap.size, 0, none⟩ = some (.int .i64 t.ln) := (dt.cell_cells hD2 0).trans rfl
  have d1 : w2.cell? ⟨w1.heap.size, 1, none⟩ = some (.int .i64 t.co) := (dt.cell_cells hD2 1).trans rfl
  have HT := hide (dt.there_cells hR2 (o := 0) (n := 7) (by decide))
  have HK := hide ((Kp.of ((unhide bA) _)).trans hk12)
  have HC := hide hc2
  have HB := hide hbp
  have hloZ := hide (show w.heap.size < (w1.alloc (.cells #[.int .i64 t.ln, .int .i64 t.co] 30)).heap.size from by simp; omega)
  clear ht hb hk2 hk12 hc2 hZ bA hR2 hD2 hbp bw1
  cases r with
  | none =>
    have hs2 := hide ((unhide hs0) rfl)
    obtain rfl : sl = .slice none 0 0 := unhide HB
    clear hs0 hs1
    go_wp2_with (first
      | refine wpList_store_mid (by rfl) 55 _ _ (by rfl) w.heap.size 0 #[.int .i64 0, .string ⟨#[]⟩, .bool false, .slice none 0 0, .slice none 0 0, .int .i64 0, .int .i64 0] (by rfl) (by rfl) (unhide HT) infoLt (dt.one_cells (cs := [.int .i64 0, .string ⟨#[]⟩, .bool false, .slice none 0 0, .slice none 0 0, .int .i64 0, .int .i64 0]) (by rfl)) ?_)
    refine bodyPost_ret (rgn.result_row_tmp rfl _ _ w.heap.size 0 [.int .i64 0, .string ⟨#[]⟩, .bool false, .slice none 0 0, .slice none 0 0, .int .i64 0, .int .i64 0] _ rfl (World.rangeAt_setCells_same _ _ _ _ (unhide HT)) Tryz.underlying55 rfl infoLt) rfl ?_
    rw [unhide hs2]
    exact ⟨_, [], rfl, ⟨leaf_shape 0 em false 0 0, leaf_ow _ 0 em false 0 0, List.nodup_nil, by simp⟩, (unhide HC).out hne hnp _ _, (unhide HK).out (Nat.le_refl _) _ _⟩
  | some l =>
    have hs2 := hide ((unhide hs1) l rfl)
    obtain ⟨Gs, hgr⟩ := unhide HB
    obtain ⟨a, n, c', F, rfl, how, hnd, hrg⟩ := obj_ow hgr t.ln t.co
    have HO := hide (And.intro how (And.intro hnd hrg))
    clear hs0 hs1 hgr how hnd hrg HB
    go_wp2_with (first
      | refine wpList_store_mid (by rfl) 55 _ _ (by rfl) w.heap.size 0 #[.int .i64 9, .string ⟨#[]⟩, .bool false, .slice none 0 0, .slice a n c', .int .i64 t.ln, .int .i64 t.co] (by rfl) (by rfl) (unhide HT) infoLt (dt.one_cells (cs := [.int .i64 9, .string ⟨#[]⟩, .bool false, .slice none 0 0, .slice a n c', .int .i64 t.ln, .int .i64 t.co]) (by rfl)) ?_)
    refine bodyPost_ret (rgn.result_row_tmp rfl _ _ w.heap.size 0 [.int .i64 9, .string ⟨#[]⟩, .bool false, .slice none 0 0, .slice a n c', .int .i64 t.ln, .int .i64 t.co] _ rfl (World.rangeAt_setCells_same _ _ _ _ (unhide HT)) Tryz.underlying55 rfl infoLt) rfl ?_
    rw [unhide hs2]
    obtain ⟨how, hnd, hrg⟩ := unhide HO
    exact ⟨_, F, rfl, ⟨⟨_, _, _, _, _, _, _, _, _, _, _, rfl⟩, ow_out how (fun hm => by have := (hrg _ hm).1; have := unhide hloZ; omega) _ _, hnd, fun b hb => ⟨by have := (hrg b hb).1; have := unhide hloZ; omega, by rw [dt.size_setCells]; exact (hrg b hb).2⟩⟩, (unhide HC).out hne hnp _ _, (unhide HK).out (Nat.le_refl _) _ _⟩
end Go.Proofs.YtejjnhcmpiamiaaGreat.cu
namespace Go.Proofs.YtejjnhcmpiamiaaGreat.cu
open Go.ChangeShapes Go.WideShapes Go.ChangeAt Go.RowKit
open ints (hide unhide)
open dt (Dt Kp RowAt Ow Grow)
set_option linter.unusedVariables false
set_option linter.unusedSimpArgs false
set_option maxRecDepth 4000 in
set_option maxHeartbeats 1000000 in
theorem field_ok (E : Cu → Option Dt × Cu) (ct : Bool) (c : Cu) (hA : FldAt 53 E ct c) : FldAt 63 E ct c := by
  intro B p w h
  have ha := hide (fun W (bb : Below w.heap.size w W) => hA B p W (h.below bb))
  have hlt := h.lt
  have hplt := h.plt
  have hne : B ≠ w.heap.size := by omega
  have hnp : p ≠ w.heap.size := by omega
  have bA := hide (fun o => show Below w.heap.size w (w.alloc o) from (Below.refl _ _).alloc (Nat.le_refl _) _)
  have hZ := hide (fun o W (hk : Kp B (w.alloc o) W) => show W.heap[w.heap.size]? = some o from (hk.block w.heap.size (by simp) (by omega)).trans (heap_alloc_new w o))
  obtain ⟨U, hU⟩ : ∃ U, U = E c := ⟨_, rfl⟩
  rw [← hU] at ha ⊢
  clear h hU hA
  obtain ⟨r, C⟩ := U
  unfold ptr at ha ⊢
  go_enter Tryz.func63, Tryz.ntmps63
  go_wp2_with fail
  refine ((unhide ha) _ ((unhide bA) _)).mono ?_
  rintro e w2 ⟨cs, F, rfl, hpo, hc2, hk2⟩
  obtain ⟨nm, ds, X, Y, ⟨k, tx, bl, ai, ni, ci, af, nf, cf, ln, co, rfl⟩, rfl⟩ := hpo.shape
  have hR2 := (unhide hZ) _ w2 hk2
  have hz2 : w.heap.size < w2.heap.size := by have := hk2.size; simp at this; omega
  have HT := hide (fun o => dt.there_cells ((Below.heap_alloc w2 o w.heap.size hz2).trans hR2) (o := 0) (n := 10) (by decide))
  have HK := hide ((Kp.of ((unhide bA) _)).trans hk2)
  have HC := hide hc2
  have HP := hide hpo
  have hrF : ∀ b ∈ F, w.heap.size < b ∧ b < w2.heap.size := fun b hb => ⟨by have := (hpo.rng b hb).1; simp at this; omega, (hpo.rng b hb).2⟩
  clear ha hk2 hc2 hZ bA hR2 hpo
  go_wp2_with (first
    | refine wpList_store_mid (by rfl) 63 _ _ (by rfl) w.heap.size 0 #[.string nm, .int .i64 k, .string tx, .bool bl, .slice ai ni ci, .slice af nf cf, .int .i64 ln, .int .i64 co, .int .i64 X, .int .i64 Y] (by rfl) (by rfl) ((unhide HT) _) infoLf (dt.one_cells (cs := [.string nm, .int .i64 k, .string tx, .bool bl, .slice ai ni ci, .slice af nf cf, .int .i64 ln, .int .i64 co, .int .i64 X, .int .i64 Y]) (by rfl)) ?_)
  refine bodyPost_ret (rgn.result_row_tmp rfl _ _ w.heap.size 0 [.string nm, .int .i64 k, .string tx, .bool bl, .slice ai ni ci, .slice af nf cf, .int .i64 ln, .int .i64 co, .int .i64 X, .int .i64 Y] _ rfl (World.rangeAt_setCells_same _ _ _ _ ((unhide HT) _)) Tryz.underlying63 rfl infoLf) rfl ?_
  have hown := ow_out (ow_below (unhide HP).own ((Below.refl _ _).alloc (Nat.le_refl _) (.cells #[.string nm, .int .i64 k, .string tx, .bool bl, .slice ai ni ci, .slice af nf cf, .int .i64 ln, .int .i64 co, .int .i64 X, .int .i64 Y] 103)) (fun b hb => (hrF b hb).2)) (b := w.heap.size) (fun hb => by have := (hrF _ hb).1; omega) 0 [.string nm, .int .i64 k, .string tx, .bool bl, .slice ai ni ci, .slice af nf cf, .int .i64 ln, .int .i64 co, .int .i64 X, .int .i64 Y]
  exact ⟨_, F, rfl, ⟨⟨nm, _, X, Y, ⟨k, tx, bl, ai, ni, ci, af, nf, cf, ln, co, rfl⟩, rfl⟩, hown, (unhide HP).nodup, fun b hb => ⟨by have := (hrF b hb).1; omega, by rw [dt.size_setCells]; have := (hrF b hb).2; simp; omega⟩⟩, ((unhide HC).below ((Below.refl _ _).alloc (Nat.le_refl _) _)).out hne hnp _ _, ((unhide HK).trans (Kp.of ((Below.refl _ _).alloc (Nat.le_refl _) _))).out (Nat.le_refl _) _ _⟩
theorem word_form (t : Tk) : ∃ (k : Int) (s : ByteArray), wordC t t.tx = leafC k s false t.ln t.co ∧ wordD t = litD k s false .nil .nil t.ln t.co := by
  unfold wordC wordD
  split
  · exact ⟨5, t.tx, rfl, rfl⟩
  · split
    · exact ⟨6, em, rfl, rfl⟩
    · exact ⟨7, t.tx, rfl, rfl⟩
theorem var_post (c : Cu) : ∃ d, (varS c).1.getD zeroD = d ∧ (varS c).1.isSome = c.take.isN ∧ (varS c).2 = c.take.name ∧ ∃ k s ln co, varC c = leafC k s false ln co ∧ d = litD k s false .nil .nil ln co := by
  unfold varS varC
  split
  · exact ⟨_, rfl, by simp [*], rfl, _, _, _, _, rfl, rfl⟩
  · exact ⟨_, rfl, by simp [*], rfl, 0, em, 0, 0, rfl, rfl⟩
set_option maxRecDepth 4000 in
set_option maxHeartbeats 8000000 in
theorem lit_ok (L : Cu → Option Dt × Cu) (ct : Bool) (c : Cu) (hc0 : c.Ok) (hls' : LitFn 50 (listS L) ct c) (hob' : LitFn 51 (objS L) ct c) : LitAt (litS L ct) ct c := by
  intro B p w h
  have hd := hide (fun W (bb : Below w.heap.size w W) => dead_ok B p c W (h.below bb))
  have ht := hide (fun W (bb : Below w.heap.size w W) => token_ok B p c W (h.below bb))
  have hip := hide (fun q W (bb : Below w.heap.size w W) => isPunct_ok B p c q W (h.below bb))
  have hrf := hide (fun W (bb : Below w.heap.size w W) => refuse0_ok B p c W (h.below bb))
  have hls := hide (fun W (bb : Below w.heap.size w W) => hls' B p W (h.below bb))
  have hob := hide (fun W (bb : Below w.heap.size w W) => hob' B p W (h.below bb))
  have hlt := h.lt
  have hplt := h.plt
  have hne : B ≠ w.heap.size := by omega
  have hnp : p ≠ w.heap.size := by omega
  have bA := hide (fun o => show Below w.heap.size w (w.alloc o) from (Below.refl _ _).alloc (Nat.le_refl _) _)
  have hZ := hide (fun o W (hk : Kp B (w.alloc o) W) => show W.heap[w.heap.size]? = some o from (hk.block w.heap.size (by simp) (by omega)).trans (heap_alloc_new w o))
  by_cases hkd : c.kd = 0
  · have ekd : (c.kd != 0) = false := by simpa using hkd
    have hm : ∀ k : Int, c.tok.k = k → k ≠ 0 → k ≠ 1 → c.ix + 1 < c.ts.length := fun k e h0 h1 => more_of hc0 (by rw [e]; exact h0) (by rw [e]; exact h1)
    have hSS := hide (show litS L ct c = (if c.tok.k = 4 then (some (litD 2 c.tok.tx false .nil .nil c.tok.ln c.tok.co), c.take)
      else if c.tok.k = 5 then (some (litD 3 c.tok.tx false .nil .nil c.tok.ln c.tok.co), c.take)
      else if c.tok.k = 6 ∨ c.tok.k = 7 then (some (litD 4 c.tok.va (decide (c.tok.k = 7)) .nil .nil c.tok.ln c.tok.co), c.take)
      else if c.tok.k = 3 then (some (wordD c.tok), c.take)
      else if c.isP bDol ∧ ct = false then varS c
      else if c.isP bLb then listS L c
      else if c.isP bLc then objS L c
      else (none, c.stop 70)) from by unfold litS; rw [if_neg (fun e => e hkd)])
    have hl := hide (fun k s W (bb : Below w.heap.size w W) (hm : c.ix + 1 < c.ts.length) => leaf_ok B p c k s W (h.below bb) hm)
    have hwd := hide (fun s W (bb : Below w.heap.size w W) (hm : c.ix + 1 < c.ts.length) => word_ok B p c s W (h.below bb) hm)
    have hvr := hide (fun W (bb : Below w.heap.size w W) (hm : c.ix + 1 < c.ts.length) => var_ok B p c W (h.below bb) hm)
    have hmP := hide (fun q (e : c.isP q = true) => isP_more hc0 e)
    obtain ⟨t, et⟩ : ∃ t, t = c.tok := ⟨_, rfl⟩
    rw [← et] at ht hl hwd hSS hm
    rw [ekd] at hd
    have Het := hide et
    clear h et hls' hob' hkd ekd
    unfold Tk.cells at ht
    unfold leafC at hl
    unfold ptr at hd ht hip hrf hls hob hl hwd hvr ⊢
    by_cases h4 : t.k = 4
    · have e4 : (t.k == 4) = true := by simpa using h4
      have hmm := hm 4 h4 (by decide) (by decide)
      have hl := hide (fun k s W bb => (unhide hl) k s W bb hmm)
      have hs2 := hide (show litS L ct c = (some (litD 2 t.tx false .nil .nil t.ln t.co), c.take) from by rw [unhide hSS, if_pos h4])
      clear h4 hm hSS hmm
      go_enter Tryz.func32, Tryz.ntmps32
      go_wp2_with fail
      refine ((unhide hd) _ ((unhide bA) _)).mono ?_
      rintro e w1 ⟨rfl, rfl⟩
      go_wp2_with fail
      refine ((unhide ht) _ ((unhide bA) _)).mono ?_
      rintro e w1 ⟨rfl, b1⟩
      have bw1 := ((unhide bA) _).trans (b1.mono ((unhide bA) _).size)
      have bw2 := fun o => bw1.alloc bw1.size o
      go_wp2_with fail
      refine ((unhide hl) 2 t.tx _ (bw2 _)).mono ?_
      rintro e w2 ⟨rfl, hc2, hk2⟩
      have hk02 := (Kp.of b1).trans ((Kp.of ((Below.refl _ _).alloc (Nat.le_refl _) _)).trans hk2)
      have hR2 := (unhide hZ) _ w2 hk02
      have HT := hide (dt.there_cells hR2 (o := 0) (n := 7) (by decide))
      have HK := hide ((Kp.of ((unhide bA) _)).trans hk02)
      have HC := hide hc2
      clear hl hwd hvr hls hob hip hrf ht hd hk2 hk02 hc2 hZ bA hR2 bw1 bw2
      go_wp2_with (first
        | refine wpList_store_mid (by rfl) 55 _ _ (by rfl) w.heap.size 0 #[.int .i64 2, .string t.tx, .bool false, .slice none 0 0, .slice none 0 0, .int .i64 t.ln, .int .i64 t.co] (by rfl) (by rfl) (unhide HT) infoLt (dt.one_cells (cs := [.int .i64 2, .string t.tx, .bool false, .slice none 0 0, .slice none 0 0, .int .i64 t.ln, .int .i64 t.co]) (by rfl)) ?_)
      refine bodyPost_ret (rgn.result_row_tmp rfl _ _ w.heap.size 0 [.int .i64 2, .string t.tx, .bool false, .slice none 0 0, .slice none 0 0, .int .i64 t.ln, .int .i64 t.co] _ rfl (World.rangeAt_setCells_same _ _ _ _ (unhide HT)) Tryz.underlying55 rfl infoLt) rfl ?_
      rw [unhide hs2]
      exact ⟨_, [], rfl, ⟨leaf_shape 2 t.tx false t.ln t.co, leaf_ow _ 2 t.tx false t.ln t.co, List.nodup_nil, by simp⟩, (unhide HC).out hne hnp _ _, (unhide HK).out (Nat.le_refl _) _ _⟩
    have e4 : (t.k == 4) = false := by simpa using h4
    by_cases h5 : t.k = 5
    · have e5 : (t.k == 5) = true := by simpa using h5
      have hmm := hm 5 h5 (by decide) (by decide)
      have hl := hide (fun k s W bb => (unhide hl) k s W bb hmm)
      have hs2 := hide (show litS L ct c = (some (litD 3 t.tx false .nil .nil t.ln t.co), c.take) from by rw [unhide hSS, if_neg h4, if_pos h5])
      clear h4 h5 hm hSS hmm
      go_enter Tryz.func32, Tryz.ntmps32
      go_wp2_with fail
      refine ((unhide hd) _ ((unhide bA) _)).mono ?_
      rintro e w1 ⟨rfl, rfl⟩
      go_wp2_with fail
      refine ((unhide ht) _ ((unhide bA) _)).mono ?_
      rintro e w1 ⟨rfl, b1⟩
      have bw1 := ((unhide bA) _).trans (b1.mono ((unhide bA) _).size)
      have bw2 := fun o => bw1.alloc bw1.size o
      go_wp2_with fail
      refine ((unhide hl) 3 t.tx _ (bw2 _)).mono ?_
      rintro e w2 ⟨rfl, hc2, hk2⟩
      have hk02 := (Kp.of b1).trans ((Kp.of ((Below.refl _ _).alloc (Nat.le_refl _) _)).trans hk2)
      have hR2 := (unhide hZ) _ w2 hk02
      have HT := hide (dt.there_cells hR2 (o := 0) (n := 7) (by decide))
      have HK := hide ((Kp.of ((unhide bA) _)).trans hk02)
      have HC := hide hc2
      clear hl hwd hvr hls hob hip hrf ht hd hk2 hk02 hc2 hZ bA hR2 bw1 bw2
      go_wp2_with (first
        | refine wpList_store_mid (by rfl) 55 _ _ (by rfl) w.heap.size 0 #[.int .i64 3, .string t.tx, .bool false, .slice none 0 0, .slice none 0 0, .int .i64 t.ln, .int .i64 t.co] (by rfl) (by rfl) (unhide HT) infoLt (dt.one_cells (cs := [.int .i64 3, .string t.tx, .bool false, .slice none 0 0, .slice none 0 0, .int .i64 t.ln, .int .i64 t.co]) (by rfl)) ?_)
      refine bodyPost_ret (rgn.result_row_tmp rfl _ _ w.heap.size 0 [.int .i64 3, .string t.tx, .bool false, .slice none 0 0, .slice none 0 0, .int .i64 t.ln, .int .i64 t.co] _ rfl (World.rangeAt_setCells_same _ _ _ _ (unhide HT)) Tryz.underlying55 rfl infoLt) rfl ?_
      rw [unhide hs2]
      exact ⟨_, [], rfl, ⟨leaf_shape 3 t.tx false t.ln t.co, leaf_ow _ 3 t.tx false t.ln t.co, List.nodup_nil, by simp⟩, (unhide HC).out hne hnp _ _, (unhide HK).out (Nat.le_refl _) _ _⟩
    have e5 : (t.k == 5) = false := by simpa using h5
    by_cases h6 : t.k = 6
    · have e6 : (t.k == 6) = true := by simpa using h6
      have e7 : (t.k == 7) = false := by rw [h6]; rfl
      have hmm := hm 6 h6 (by decide) (by decide)
      have hl := hide (fun k s W bb => (unhide hl) k s W bb hmm)
      have hs2 := hide (show litS L ct c = (some (litD 4 t.va false .nil .nil t.ln t.co), c.take) from by rw [unhide hSS, if_neg h4, if_neg h5, if_pos (.inl h6), show decide (t.k = 7) = false from by rw [h6]; rfl])
      clear h4 h5 h6 hm hSS hmm
      go_enter Tryz.func32, Tryz.ntmps32
      go_wp2_with fail
      refine ((unhide hd) _ ((unhide bA) _)).mono ?_
      rintro e w1 ⟨rfl, rfl⟩
      go_wp2_with fail
      refine ((unhide ht) _ ((unhide bA) _)).mono ?_
      rintro e w1 ⟨rfl, b1⟩
      have bw1 := ((unhide bA) _).trans (b1.mono ((unhide bA) _).size)
      have bw2 := fun o => bw1.alloc bw1.size o
      go_wp2_with fail
      refine ((unhide hl) 4 t.va _ (bw2 _)).mono ?_
      rintro e w2 ⟨rfl, hc2, hk2⟩
      have hT2 := (hk2.block w1.heap.size (by simp) (by have := bw1.size; omega)).trans (heap_alloc_new w1 _)
      have hk02 := (Kp.of b1).trans ((Kp.of ((Below.refl _ _).alloc (Nat.le_refl _) _)).trans hk2)
      have hR2 := (unhide hZ) _ w2 hk02
      have hz2 : w.heap.size < w2.heap.size := by have := hk02.size; simp at this; omega
      have hz3 : w1.heap.size < w2.heap.size := by have := hk2.size; simp at this; omega
      have k0 : ∀ o, (w2.alloc o).cell? ⟨w1.heap.size, 0, none⟩ = some (.int .i64 t.k) := fun o => (dt.cell_cells ((Below.heap_alloc w2 o w1.heap.size hz3).trans hT2) 0).trans rfl
      have HT := hide (fun o => dt.there_cells ((Below.heap_alloc w2 o w.heap.size hz2).trans hR2) (o := 0) (n := 7) (by decide))
      have HK := hide ((Kp.of ((unhide bA) _)).trans hk02)
      have HC := hide hc2
      clear hl hwd hvr hls hob hip hrf ht hd hk2 hk02 hc2 hZ bA hR2 bw1 bw2 hT2
      go_wp2_with (first
        | refine wpList_store_mid (by rfl) 55 _ _ (by rfl) w.heap.size 0 #[.int .i64 4, .string t.va, .bool false, .slice none 0 0, .slice none 0 0, .int .i64 t.ln, .int .i64 t.co] (by rfl) (by rfl) ((unhide HT) _) infoLt (dt.one_cells (cs := [.int .i64 4, .string t.va, .bool false, .slice none 0 0, .slice none 0 0, .int .i64 t.ln, .int .i64 t.co]) (by rfl)) ?_)
      refine bodyPost_ret (rgn.result_row_tmp rfl _ _ w.heap.size 0 [.int .i64 4, .string t.va, .bool false, .slice none 0 0, .slice none 0 0, .int .i64 t.ln, .int .i64 t.co] _ rfl (World.rangeAt_setCells_same _ _ _ _ ((unhide HT) _)) Tryz.underlying55 rfl infoLt) rfl ?_
      rw [unhide hs2]
      exact ⟨_, [], rfl, ⟨leaf_shape 4 t.va false t.ln t.co, leaf_ow _ 4 t.va false t.ln t.co, List.nodup_nil, by simp⟩, ((unhide HC).below ((Below.refl _ _).alloc (Nat.le_refl _) _)).out hne hnp _ _, ((unhide HK).trans (Kp.of ((Below.refl _ _).alloc (Nat.le_refl _) _))).out (Nat.le_refl _) _ _⟩
    have e6 : (t.k == 6) = false := by simpa using h6
    by_cases h7 : t.k = 7
    · have e7 : (t.k == 7) = true := by simpa using h7
      have hmm := hm 7 h7 (by decide) (by decide)
      have hl := hide (fun k s W bb => (unhide hl) k s W bb hmm)
      have hs2 := hide (show litS L ct c = (some (litD 4 t.va true .nil .nil t.ln t.co), c.take) from by rw [unhide hSS, if_neg h4, if_neg h5, if_pos (.inr h7), show decide (t.k = 7) = true from by rw [h7]; rfl])
      clear h4 h5 h6 h7 hm hSS hmm
      go_enter Tryz.func32, Tryz.ntmps32
      go_wp2_with fail
      refine ((unhide hd) _ ((unhide bA) _)).mono ?_
      rintro e w1 ⟨rfl, rfl⟩
      go_wp2_with fail
      refine ((unhide ht) _ ((unhide bA) _)).mono ?_
      rintro e w1 ⟨rfl, b1⟩
      have bw1 := ((unhide bA) _).trans (b1.mono ((unhide bA) _).size)
      have bw2 := fun o => bw1.alloc bw1.size o
      go_wp2_with fail
      refine ((unhide hl) 4 t.va _ (bw2 _)).mono ?_
      rintro e w2 ⟨rfl, hc2, hk2⟩
      have hT2 := (hk2.block w1.heap.size (by simp) (by have := bw1.size; omega)).trans (heap_alloc_new w1 _)
      have hk02 := (Kp.of b1).trans ((Kp.of ((Below.refl _ _).alloc (Nat.le_refl _) _)).trans hk2)
      have hR2 := (unhide hZ) _ w2 hk02
      have hz2 : w.heap.size < w2.heap.size := by have := hk02.size; simp at this; omega
      have hz3 : w1.heap.size < w2.heap.size := by have := hk2.size; simp at this; omega
      have k0 : ∀ o, (w2.alloc o).cell? ⟨w1.heap.size, 0, none⟩ = some (.int .i64 t.k) := fun o => (dt.cell_cells ((Below.heap_alloc w2 o w1.heap.size hz3).trans hT2) 0).trans rfl
      have HT := hide (fun o => dt.there_cells ((Below.heap_alloc w2 o w.heap.size hz2).trans hR2) (o := 0) (n := 7) (by decide))
      have HK := hide ((Kp.of ((unhide bA) _)).trans hk02)
      have HC := hide hc2
      clear hl hwd hvr hls hob hip hrf ht hd hk2 hk02 hc2 hZ bA hR2 bw1 bw2 hT2
      go_wp2_with (first
        | refine wpList_store_mid (by rfl) 55 _ _ (by rfl) w.heap.size 0 #[.int .i64 4, .string t.va, .bool true, .slice none 0 0, .slice none 0 0, .int .i64 t.ln, .int .i64 t.co] (by rfl) (by rfl) ((unhide HT) _) infoLt (dt.one_cells (cs := [.int .i64 4, .string t.va, .bool true, .slice none 0 0, .slice none 0 0, .int .i64 t.ln, .int .i64 t.co]) (by rfl)) ?_)
      refine bodyPost_ret (rgn.result_row_tmp rfl _ _ w.heap.size 0 [.int .i64 4, .string t.va, .bool true, .slice none 0 0, .slice none 0 0, .int .i64 t.ln, .int .i64 t.co] _ rfl (World.rangeAt_setCells_same _ _ _ _ ((unhide HT) _)) Tryz.underlying55 rfl infoLt) rfl ?_
      rw [unhide hs2]
      exact ⟨_, [], rfl, ⟨leaf_shape 4 t.va true t.ln t.co, leaf_ow _ 4 t.va true t.ln t.co, List.nodup_nil, by simp⟩, ((unhide HC).below ((Below.refl _ _).alloc (Nat.le_refl _) _)).out hne hnp _ _, ((unhide HK).trans (Kp.of ((Below.refl _ _).alloc (Nat.le_refl _) _))).out (Nat.le_refl _) _ _⟩
    have e7 : (t.k == 7) = false := by simpa using h7
    by_cases h3 : t.k = 3
    · have e3 : (t.k == 3) = true := by simpa using h3
      have hmm := hm 3 h3 (by decide) (by decide)
      have hwd := hide (fun s W bb => (unhide hwd) s W bb hmm)
      have hs2 := hide (show litS L ct c = (some (wordD t), c.take) from by rw [unhide hSS, if_neg h4, if_neg h5, if_neg (fun e => e.elim h6 h7), if_pos h3])
      clear h4 h5 h6 h7 h3 hm hSS hmm
      go_enter Tryz.func32, Tryz.ntmps32
      go_wp2_with fail
      refine ((unhide hd) _ ((unhide bA) _)).mono ?_
      rintro e w1 ⟨rfl, rfl⟩
      go_wp2_with fail
      refine ((unhide ht) _ ((unhide bA) _)).mono ?_
      rintro e w1 ⟨rfl, b1⟩
      have bw1 := ((unhide bA) _).trans (b1.mono ((unhide bA) _).size)
      have bw2 := fun o => bw1.alloc bw1.size o
      go_wp2_with fail
      refine ((unhide hwd) t.tx _ (bw2 _)).mono ?_
      rintro e w2 ⟨rfl, hc2, hk2⟩
      have hk02 := (Kp.of b1).trans ((Kp.of ((Below.refl _ _).alloc (Nat.le_refl _) _)).trans hk2)
      have hR2 := (unhide hZ) _ w2 hk02
      have HT := hide (dt.there_cells hR2 (o := 0) (n := 7) (by decide))
      have HK := hide ((Kp.of ((unhide bA) _)).trans hk02)
      have HC := hide hc2
      obtain ⟨kk, tt, hwc, hwD⟩ := word_form t
      rw [hwc]
      rw [hwD] at hs2
      clear hl hwd hvr hls hob hip hrf ht hd hk2 hk02 hc2 hZ bA hR2 bw1 bw2
      unfold leafC
      go_wp2_with (first
        | refine wpList_store_mid (by rfl) 55 _ _ (by rfl) w.heap.size 0 #[.int .i64 kk, .string tt, .bool false, .slice none 0 0, .slice none 0 0, .int .i64 t.ln, .int .i64 t.co] (by rfl) (by rfl) (unhide HT) infoLt (dt.one_cells (cs := [.int .i64 kk, .string tt, .bool false, .slice none 0 0, .slice none 0 0, .int .i64 t.ln, .int .i64 t.co]) (by rfl)) ?_)
      refine bodyPost_ret (rgn.result_row_tmp rfl _ _ w.heap.size 0 [.int .i64 kk, .string tt, .bool false, .slice none 0 0, .slice none 0 0, .int .i64 t.ln, .int .i64 t.co] _ rfl (World.rangeAt_setCells_same _ _ _ _ (unhide HT)) Tryz.underlying55 rfl infoLt) rfl ?_
      rw [unhide hs2]
      exact ⟨_, [], rfl, ⟨leaf_shape kk tt false t.ln t.co, leaf_ow _ kk tt false t.ln t.co, List.nodup_nil, by simp⟩, (unhide HC).out hne hnp _ _, (unhide HK).out (Nat.le_refl _) _ _⟩
    have e3 : (t.k == 3) = false := by simpa using h3
    have hS2 := hide (show litS L ct c = (if c.isP bDol ∧ ct = false then varS c else if c.isP bLb then listS L c else if c.isP bLc then objS L c else (none, c.stop 70)) from by rw [unhide hSS, if_neg h4, if_neg h5, if_neg (fun e => e.elim h6 h7), if_neg h3])
    clear h4 h5 h6 h7 h3 hm hSS hl hwd
    cases hP1 : c.isP bDol
    · cases ct
      · cases hP2 : c.isP bLb
        · cases hP3 : c.isP bLc
          · have hs2 := hide (show litS L false c = (none, c.stop 70) from by rw [unhide hS2, if_neg (fun e => by rw [hP1] at e; exact absurd e.1 (by simp)), if_neg (by rw [hP2]; simp), if_neg (by rw [hP3]; simp)])
            clear hS2
            go_enter Tryz.func32, Tryz.ntmps32
            go_wp2_with fail
            refine ((unhide hd) _ ((unhide bA) _)).mono ?_
            rintro e w1 ⟨rfl, rfl⟩
            go_wp2_with fail
            refine ((unhide ht) _ ((unhide bA) _)).mono ?_
            rintro e w1 ⟨rfl, b1⟩
            have bw1 := ((unhide bA) _).trans (b1.mono ((unhide bA) _).size)
            have c2 := b1.alloc b1.size (.cells #[.int .i64 t.k, .int .i64 t.ln, .int .i64 t.co, .int .i64 t.fr, .int .i64 t.to, .string t.tx, .string t.va] 32)
            have bw2 := ((unhide bA) _).trans (c2.mono ((unhide bA) _).size)
            go_wp2_with fail
            refine ((unhide hip) bDol _ bw2).mono ?_
            rintro e w3 ⟨rfl, b3⟩
            rw [hP1]
            have c3 := c2.trans (b3.mono c2.size)
            have bw3 := ((unhide bA) _).trans (c3.mono ((unhide bA) _).size)
            go_wp2_with fail
            refine ((unhide hip) bLb _ bw3).mono ?_
            rintro e w4 ⟨rfl, b4⟩
            rw [hP2]
            have c4 := c3.trans (b4.mono c3.size)
            have bw4 := ((unhide bA) _).trans (c4.mono ((unhide bA) _).size)
            go_wp2_with fail
            refine ((unhide hip) bLc _ bw4).mono ?_
            rintro e w5 ⟨rfl, b5⟩
            rw [hP3]
            have c5 := c4.trans (b5.mono c4.size)
            have bw5 := ((unhide bA) _).trans (c5.mono ((unhide bA) _).size)
            go_wp2_with fail
            refine ((unhide hrf) _ bw5).mono ?_
            rintro e w9 ⟨rfl, hc9, hk9⟩
            have hk09 := (Kp.of c5).trans hk9
            have hR9 := (unhide hZ) _ w9 hk09
            have HT := hide (dt.there_cells hR9 (o := 0) (n := 7) (by decide))
            have HK := hide ((Kp.of ((unhide bA) _)).trans hk09)
            have HC := hide hc9
            clear hvr hls hob hip hrf ht hd hk9 hk09 hc9 hZ bA hR9
            go_wp2_with (first
              | refine wpList_store_mid (by rfl) 55 _ _ (by rfl) w.heap.size 0 #[.int .i64 0, .string ⟨#[]⟩, .bool false, .slice none 0 0, .slice none 0 0, .int .i64 0, .int .i64 0] (by rfl) (by rfl) (unhide HT) infoLt (dt.one_cells (cs := [.int .i64 0, .string ⟨#[]⟩, .bool false, .slice none 0 0, .slice none 0 0, .int .i64 0, .int .i64 0]) (by rfl)) ?_)
            refine bodyPost_ret (rgn.result_row_tmp rfl _ _ w.heap.size 0 [.int .i64 0, .string ⟨#[]⟩, .bool false, .slice none 0 0, .slice none 0 0, .int .i64 0, .int .i64 0] _ rfl (World.rangeAt_setCells_same _ _ _ _ (unhide HT)) Tryz.underlying55 rfl infoLt) rfl ?_
            rw [unhide hs2]
            exact ⟨_, [], rfl, ⟨leaf_shape 0 em false 0 0, leaf_ow _ 0 em false 0 0, List.nodup_nil, by simp⟩, (unhide HC).out hne hnp _ _, (unhide HK).out (Nat.le_refl _) _ _⟩
          · have hs2 := hide (show litS L false c = objS L c from by rw [unhide hS2, if_neg (fun e => by rw [hP1] at e; exact absurd e.1 (by simp)), if_neg (by rw [hP2]; simp), if_pos hP3])
            clear hS2
            go_enter Tryz.func32, Tryz.ntmps32
            go_wp2_with fail
            refine ((unhide hd) _ ((unhide bA) _)).mono ?_
            rintro e w1 ⟨rfl, rfl⟩
            go_wp2_with fail
            refine ((unhide ht) _ ((unhide bA) _)).mono ?_
            rintro e w1 ⟨rfl, b1⟩
            have bw1 := ((unhide bA) _).trans (b1.mono ((unhide bA) _).size)
            have c2 := b1.alloc b1.size (.cells #[.int .i64 t.k, .int .i64 t.ln, .int .i64 t.co, .int .i64 t.fr, .int .i64 t.to, .string t.tx, .string t.va] 32)
            have bw2 := ((unhide bA) _).trans (c2.mono ((unhide bA) _).size)
            go_wp2_with fail
            refine ((unhide hip) bDol _ bw2).mono ?_
            rintro e w3 ⟨rfl, b3⟩
            rw [hP1]
            have c3 := c2.trans (b3.mono c2.size)
            have bw3 := ((unhide bA) _).trans (c3.mono ((unhide bA) _).size)
            go_wp2_with fail
            refine ((unhide hip) bLb _ bw3).mono ?_
            rintro e w4 ⟨rfl, b4⟩
            rw [hP2]
            have c4 := c3.trans (b4.mono c3.size)
            have bw4 := ((unhide bA) _).trans (c4.mono ((unhide bA) _).size)
            go_wp2_with fail
            refine ((unhide hip) bLc _ bw4).mono ?_
            rintro e w5 ⟨rfl, b5⟩
            rw [hP3]
            have c5 := c4.trans (b5.mono c4.size)
            have bw5 := ((unhide bA) _).trans (c5.mono ((unhide bA) _).size)
            go_wp2_with fail
            refine ((unhide hob) _ bw5).mono ?_
            rintro e w9 ⟨cs, F, rfl, hpo, hc9, hk9⟩
            obtain ⟨kk, tt, bl, ai, ni, ci, af, nf, cf, ln, co, rfl⟩ := hpo.shape
            have hk09 := (Kp.of c5).trans hk9
            have hR9 := (unhide hZ) _ w9 hk09
            have HT := hide (dt.there_cells hR9 (o := 0) (n := 7) (by decide))
            have HK := hide ((Kp.of ((unhide bA) _)).trans hk09)
            have HC := hide hc9
            have HP := hide hpo
            have hlo := hide (show w.heap.size < w5.heap.size from by have := c5.size; simp at this; omega)
            clear hvr hls hob hip hrf ht hd hk9 hk09 hc9 hZ bA hR9 hpo
            go_wp2_with (first
              | refine wpList_store_mid (by rfl) 55 _ _ (by rfl) w.heap.size 0 #[.int .i64 kk, .string tt, .bool bl, .slice ai ni ci, .slice af nf cf, .int .i64 ln, .int .i64 co] (by rfl) (by rfl) (unhide HT) infoLt (dt.one_cells (cs := [.int .i64 kk, .string tt, .bool bl, .slice ai ni ci, .slice af nf cf, .int .i64 ln, .int .i64 co]) (by rfl)) ?_)
            refine bodyPost_ret (rgn.result_row_tmp rfl _ _ w.heap.size 0 [.int .i64 kk, .string tt, .bool bl, .slice ai ni ci, .slice af nf cf, .int .i64 ln, .int .i64 co] _ rfl (World.rangeAt_setCells_same _ _ _ _ (unhide HT)) Tryz.underlying55 rfl infoLt) rfl ?_
            rw [unhide hs2]
            exact ⟨_, F, rfl, ⟨(unhide HP).shape, ow_out (unhide HP).own (fun hm => by have := ((unhide HP).rng _ hm).1; have := unhide hlo; omega) _ _, (unhide HP).nodup, fun b hb => ⟨by have := ((unhide HP).rng b hb).1; have := unhide hlo; omega, by rw [dt.size_setCells]; exact ((unhide HP).rng b hb).2⟩⟩, (unhide HC).out hne hnp _ _, (unhide HK).out (Nat.le_refl _) _ _⟩
        · have hs2 := hide (show litS L false c = listS L c from by rw [unhide hS2, if_neg (fun e => by rw [hP1] at e; exact absurd e.1 (by simp)), if_pos hP2])
          clear hS2
          go_enter Tryz.func32, Tryz.ntmps32
          go_wp2_with fail
          refine ((unhide hd) _ ((unhide bA) _)).mono ?_
          rintro e w1 ⟨rfl, rfl⟩
          go_wp2_with fail
          refine ((unhide ht) _ ((unhide bA) _)).mono ?_
          rintro e w1 ⟨rfl, b1⟩
          have bw1 := ((unhide bA) _).trans (b1.mono ((unhide bA) _).size)
          have c2 := b1.alloc b1.size (.cells #[.int .i64 t.k, .int .i64 t.ln, .int .i64 t.co, .int .i64 t.fr, .int .i64 t.to, .string t.tx, .string t.va] 32)
          have bw2 := ((unhide bA) _).trans (c2.mono ((unhide bA) _).size)
          go_wp2_with fail
          refine ((unhide hip) bDol _ bw2).mono ?_
          rintro e w3 ⟨rfl, b3⟩
          rw [hP1]
          have c3 := c2.trans (b3.mono c2.size)
          have bw3 := ((unhide bA) _).trans (c3.mono ((unhide bA) _).size)
          go_wp2_with fail
          refine ((unhide hip) bLb _ bw3).mono ?_
          rintro e w4 ⟨rfl, b4⟩
          rw [hP2]
          have c4 := c3.trans (b4.mono c3.size)
          have bw4 := ((unhide bA) _).trans (c4.mono ((unhide bA) _).size)
          go_wp2_with fail
          refine ((unhide hls) _ bw4).mono ?_
          rintro e w9 ⟨cs, F, rfl, hpo, hc9, hk9⟩
          obtain ⟨kk, tt, bl, ai, ni, ci, af, nf, cf, ln, co, rfl⟩ := hpo.shape
          have hk09 := (Kp.of c4).trans hk9
          have hR9 := (unhide hZ) _ w9 hk09
          have HT := hide (dt.there_cells hR9 (o := 0) (n := 7) (by decide))
          have HK := hide ((Kp.of ((unhide bA) _)).trans hk09)
          have HC := hide hc9
          have HP := hide hpo
          have hlo := hide (show w.heap.size < w4.heap.size from by have := c4.size; simp at this; omega)
          clear hvr hls hob hip hrf ht hd hk9 hk09 hc9 hZ bA hR9 hpo
          go_wp2_with (first
            | refine wpList_store_mid (by rfl) 55 _ _ (by rfl) w.heap.size 0 #[.int .i64 kk, .string tt, .bool bl, .slice ai ni ci, .slice af nf cf, .int .i64 ln, .int .i64 co] (by rfl) (by rfl) (unhide HT) infoLt (dt.one_cells (cs := [.int .i64 kk, .string tt, .bool bl, .slice ai ni ci, .slice af nf cf, .int .i64 ln, .int .i64 co]) (by rfl)) ?_)
          refine bodyPost_ret (rgn.result_row_tmp rfl _ _ w.heap.size 0 [.int .i64 kk, .string tt, .bool bl, .slice ai ni ci, .slice af nf cf, .int .i64 ln, .int .i64 co] _ rfl (World.rangeAt_setCells_same _ _ _ _ (unhide HT)) Tryz.underlying55 rfl infoLt) rfl ?_
          rw [unhide hs2]
          exact ⟨_, F, rfl, ⟨(unhide HP).shape, ow_out (unhide HP).own (fun hm => by have := ((unhide HP).rng _ hm).1; have := unhide hlo; omega) _ _, (unhide HP).nodup, fun b hb => ⟨by have := ((unhide HP).rng b hb).1; have := unhide hlo; omega, by rw [dt.size_setCells]; exact ((unhide HP).rng b hb).2⟩⟩, (unhide HC).out hne hnp _ _, (unhide HK).out (Nat.le_refl _) _ _⟩
      · cases hP2 : c.isP bLb
        · cases hP3 : c.isP bLc
          · have hs2 := hide (show litS L true c = (none, c.stop 70) from by rw [unhide hS2, if_neg (fun e => by rw [hP1] at e; exact absurd e.1 (by simp)), if_neg (by rw [hP2]; simp), if_neg (by rw [hP3]; simp)])
            clear hS2
            go_enter Tryz.func32, Tryz.ntmps32
            go_wp2_with fail
            refine ((unhide hd) _ ((unhide bA) _)).mono ?_
            rintro e w1 ⟨rfl, rfl⟩
            go_wp2_with fail
            refine ((unhide ht) _ ((unhide bA) _)).mono ?_
            rintro e w1 ⟨rfl, b1⟩
            have bw1 := ((unhide bA) _).trans (b1.mono ((unhide bA) _).size)
            have c2 := b1.alloc b1.size (.cells #[.int .i64 t.k, .int .i64 t.ln, .int .i64 t.co, .int .i64 t.fr, .int .i64 t.to, .string t.tx, .string t.va] 32)
            have bw2 := ((unhide bA) _).trans (c2.mono ((unhide bA) _).size)
            go_wp2_with fail
            refine ((unhide hip) bDol _ bw2).mono ?_
            rintro e w3 ⟨rfl, b3⟩
            rw [hP1]
            have c3 := c2.trans (b3.mono c2.size)
            have bw3 := ((unhide bA) _).trans (c3.mono ((unhide bA) _).size)
            go_wp2_with fail
            refine ((unhide hip) bLb _ bw3).mono ?_
            rintro e w4 ⟨rfl, b4⟩
            rw [hP2]
            have c4 := c3.trans (b4.mono c3.size)
            have bw4 := ((unhide bA) _).trans (c4.mono ((unhide bA) _).size)
            go_wp2_with fail
            refine ((unhide hip) bLc _ bw4).mono ?_
            rintro e w5 ⟨rfl, b5⟩
            rw [hP3]
            have c5 := c4.trans (b5.mono c4.size)
            have bw5 := ((unhide bA) _).trans (c5.mono ((unhide bA) _).size)
            go_wp2_with fail
            refine ((unhide hrf) _ bw5).mono ?_
            rintro e w9 ⟨rfl, hc9, hk9⟩
            have hk09 := (Kp.of c5).trans hk9
            have hR9 := (unhide hZ) _ w9 hk09
            have HT := hide (dt.there_cells hR9 (o := 0) (n := 7) (by decide))
            have HK := hide ((Kp.of ((unhide bA) _)).trans hk09)
            have HC := hide hc9
            clear hvr hls hob hip hrf ht hd hk9 hk09 hc9 hZ bA hR9
            go_wp2_with (first
              | refine wpList_store_mid (by rfl) 55 _ _ (by rfl) w.heap.size 0 #[.int .i64 0, .string ⟨#[]⟩, .bool false, .slice none 0 0, .slice none 0 0, .int .i64 0, .int .i64 0] (by rfl) (by rfl) (unhide HT) infoLt (dt.one_cells (cs := [.int .i64 0, .string ⟨#[]⟩, .bool false, .slice none 0 0, .slice none 0 0, .int .i64 0, .int .i64 0]) (by rfl)) ?_)
            refine bodyPost_ret (rgn.result_row_tmp rfl _ _ w.heap.size 0 [.int .i64 0, .string ⟨#[]⟩, .bool false, .slice none 0 0, .slice none 0 0, .int .i64 0, .int .i64 0] _ rfl (World.rangeAt_setCells_same _ _ _ _ (unhide HT)) Tryz.underlying55 rfl infoLt) rfl ?_
            rw [unhide hs2]
            exact ⟨_, [], rfl, ⟨leaf_shape 0 em false 0 0, leaf_ow _ 0 em false 0 0, List.nodup_nil, by simp⟩, (unhide HC).out hne hnp _ _, (unhide HK).out (Nat.le_refl _) _ _⟩
          · have hs2 := hide (show litS L true c = objS L c from by rw [unhide hS2, if_neg (fun e => by rw [hP1] at e; exact absurd e.1 (by simp)), if_neg (by rw [hP2]; simp), if_pos hP3])
            clear hS2
            go_enter Tryz.func32, Tryz.ntmps32
            go_wp2_with fail
            refine ((unhide hd) _ ((unhide bA) _)).mono ?_
            rintro e w1 ⟨rfl, rfl⟩
            go_wp2_with fail
            refine ((unhide ht) _ ((unhide bA) _)).mono ?_
            rintro e w1 ⟨rfl, b1⟩
            have bw1 := ((unhide bA) _).trans (b1.mono ((unhide bA) _).size)
            have c2 := b1.alloc b1.size (.cells #[.int .i64 t.k, .int .i64 t.ln, .int .i64 t.co, .int .i64 t.fr, .int .i64 t.to, .string t.tx, .string t.va] 32)
            have bw2 := ((unhide bA) _).trans (c2.mono ((unhide bA) _).size)
            go_wp2_with fail
            refine ((unhide hip) bDol _ bw2).mono ?_
            rintro e w3 ⟨rfl, b3⟩
            rw [hP1]
            have c3 := c2.trans (b3.mono c2.size)
            have bw3 := ((unhide bA) _).trans (c3.mono ((unhide bA) _).size)
            go_wp2_with fail
            refine ((unhide hip) bLb _ bw3).mono ?_
            rintro e w4 ⟨rfl, b4⟩
            rw [hP2]
            have c4 := c3.trans (b4.mono c3.size)
            have bw4 := ((unhide bA) _).trans (c4.mono ((unhide bA) _).size)
            go_wp2_with fail
            refine ((unhide hip) bLc _ bw4).mono ?_
            rintro e w5 ⟨rfl, b5⟩
            rw [hP3]
            have c5 := c4.trans (b5.mono c4.size)
            have bw5 := ((unhide bA) _).trans (c5.mono ((unhide bA) _).size)
            go_wp2_with fail
            refine ((unhide hob) _ bw5).mono ?_
            rintro e w9 ⟨cs, F, rfl, hpo, hc9, hk9⟩
            obtain ⟨kk, tt, bl, ai, ni, ci, af, nf, cf, ln, co, rfl⟩ := hpo.shape
            have hk09 := (Kp.of c5).trans hk9
            have hR9 := (unhide hZ) _ w9 hk09
            have HT := hide (dt.there_cells hR9 (o := 0) (n := 7) (by decide))
            have HK := hide ((Kp.of ((unhide bA) _)).trans hk09)
            have HC := hide hc9
            have HP := hide hpo
            have hlo := hide (show w.heap.size < w5.heap.size from by have := c5.size; simp at this; omega)
            clear hvr hls hob hip hrf ht hd hk9 hk09 hc9 hZ bA hR9 hpo
            go_wp2_with (first
              | refine wpList_store_mid (by rfl) 55 _ _ (by rfl) w.heap.size 0 #[.int .i64 kk, .string tt, .bool bl, .slice ai ni ci, .slice af nf cf, .int .i64 ln, .int .i64 co] (by rfl) (by rfl) (unhide HT) infoLt (dt.one_cells (cs := [.int .i64 kk, .string tt, .bool bl, .slice ai ni ci, .slice af nf cf, .int .i64 ln, .int .i64 co]) (by rfl)) ?_)
            refine bodyPost_ret (rgn.result_row_tmp rfl _ _ w.heap.size 0 [.int .i64 kk, .string tt, .bool bl, .slice ai ni ci, .slice af nf cf, .int .i64 ln, .int .i64 co] _ rfl (World.rangeAt_setCells_same _ _ _ _ (unhide HT)) Tryz.underlying55 rfl infoLt) rfl ?_
            rw [unhide hs2]
            exact ⟨_, F, rfl, ⟨(unhide HP).shape, ow_out (unhide HP).own (fun hm => by have := ((unhide HP).rng _ hm).1; have := unhide hlo; omega) _ _, (unhide HP).nodup, fun b hb => ⟨by have := ((unhide HP).rng b hb).1; have := unhide hlo; omega, by rw [dt.size_setCells]; exact ((unhide HP).rng b hb).2⟩⟩, (unhide HC).out hne hnp _ _, (unhide HK).out (Nat.le_refl _) _ _⟩
        · have hs2 := hide (show litS L true c = listS L c from by rw [unhide hS2, if_neg (fun e => by rw [hP1] at e; exact absurd e.1 (by simp)), if_pos hP2])
          clear hS2
          go_enter Tryz.func32, Tryz.ntmps32
          go_wp2_with fail
          refine ((unhide hd) _ ((unhide bA) _)).mono ?_
          rintro e w1 ⟨rfl, rfl⟩
          go_wp2_with fail
          refine ((unhide ht) _ ((unhide bA) _)).mono ?_
          rintro e w1 ⟨rfl, b1⟩
          have bw1 := ((unhide bA) _).trans (b1.mono ((unhide bA) _).size)
          have c2 := b1.alloc b1.size (.cells #[.int .i64 t.k, .int .i64 t.ln, .int .i64 t.co, .int .i64 t.fr, .int .i64 t.to, .string t.tx, .string t.va] 32)
          have bw2 := ((unhide bA) _).trans (c2.mono ((unhide bA) _).size)
          go_wp2_with fail
          refine ((unhide hip) bDol _ bw2).mono ?_
          rintro e w3 ⟨rfl, b3⟩
          rw [hP1]
          have c3 := c2.trans (b3.mono c2.size)
          have bw3 := ((unhide bA) _).trans (c3.mono ((unhide bA) _).size)
          go_wp2_with fail
          refine ((unhide hip) bLb _ bw3).mono ?_
          rintro e w4 ⟨rfl, b4⟩
          rw [hP2]
          have c4 := c3.trans (b4.mono c3.size)
          have bw4 := ((unhide bA) _).trans (c4.mono ((unhide bA) _).size)
          go_wp2_with fail
          refine ((unhide hls) _ bw4).mono ?_
          rintro e w9 ⟨cs, F, rfl, hpo, hc9, hk9⟩
          obtain ⟨kk, tt, bl, ai, ni, ci, af, nf, cf, ln, co, rfl⟩ := hpo.shape
          have hk09 := (Kp.of c4).trans hk9
          have hR9 := (unhide hZ) _ w9 hk09
          have HT := hide (dt.there_cells hR9 (o := 0) (n := 7) (by decide))
          have HK := hide ((Kp.of ((unhide bA) _)).trans hk09)
          have HC := hide hc9
          have HP := hide hpo
          have hlo := hide (show w.heap.size < w4.heap.size from by have := c4.size; simp at this; omega)
          clear hvr hls hob hip hrf ht hd hk9 hk09 hc9 hZ bA hR9 hpo
          go_wp2_with (first
            | refine wpList_store_mid (by rfl) 55 _ _ (by rfl) w.heap.size 0 #[.int .i64 kk, .string tt, .bool bl, .slice ai ni ci, .slice af nf cf, .int .i64 ln, .int .i64 co] (by rfl) (by rfl) (unhide HT) infoLt (dt.one_cells (cs := [.int .i64 kk, .string tt, .bool bl, .slice ai ni ci, .slice af nf cf, .int .i64 ln, .int .i64 co]) (by rfl)) ?_)
          refine bodyPost_ret (rgn.result_row_tmp rfl _ _ w.heap.size 0 [.int .i64 kk, .string tt, .bool bl, .slice ai ni ci, .slice af nf cf, .int .i64 ln, .int .i64 co] _ rfl (World.rangeAt_setCells_same _ _ _ _ (unhide HT)) Tryz.underlying55 rfl infoLt) rfl ?_
          rw [unhide hs2]
          exact ⟨_, F, rfl, ⟨(unhide HP).shape, ow_out (unhide HP).own (fun hm => by have := ((unhide HP).rng _ hm).1; have := unhide hlo; omega) _ _, (unhide HP).nodup, fun b hb => ⟨by have := ((unhide HP).rng b hb).1; have := unhide hlo; omega, by rw [dt.size_setCells]; exact ((unhide HP).rng b hb).2⟩⟩, (unhide HC).out hne hnp _ _, (unhide HK).out (Nat.le_refl _) _ _⟩
    · cases ct
      · have hs2 := hide (show litS L false c = varS c from by rw [unhide hS2, if_pos ⟨hP1, rfl⟩])
        clear hS2
        go_enter Tryz.func32, Tryz.ntmps32
        go_wp2_with fail
        refine ((unhide hd) _ ((unhide bA) _)).mono ?_
        rintro e w1 ⟨rfl, rfl⟩
        go_wp2_with fail
        refine ((unhide ht) _ ((unhide bA) _)).mono ?_
        rintro e w1 ⟨rfl, b1⟩
        have bw1 := ((unhide bA) _).trans (b1.mono ((unhide bA) _).size)
        have c2 := b1.alloc b1.size (.cells #[.int .i64 t.k, .int .i64 t.ln, .int .i64 t.co, .int .i64 t.fr, .int .i64 t.to, .string t.tx, .string t.va] 32)
        have bw2 := ((unhide bA) _).trans (c2.mono ((unhide bA) _).size)
        go_wp2_with fail
        refine ((unhide hip) bDol _ bw2).mono ?_
        rintro e w3 ⟨rfl, b3⟩
        rw [hP1]
        have c3 := c2.trans (b3.mono c2.size)
        have bw3 := ((unhide bA) _).trans (c3.mono ((unhide bA) _).size)
        go_wp2_with fail
        refine ((unhide hvr) _ bw3 ((unhide hmP) bDol hP1)).mono ?_
        rintro e w9 ⟨rfl, hc9, hk9⟩
        obtain ⟨d, v1, v2, v3, kk, tt, ln, co, v4, v5⟩ := var_post c
        have hk09 := (Kp.of c3).trans hk9
        have hR9 := (unhide hZ) _ w9 hk09
        have HT := hide (dt.there_cells hR9 (o := 0) (n := 7) (by decide))
        have HK := hide ((Kp.of ((unhide bA) _)).trans hk09)
        have HC := hide hc9
        have HV := hide (And.intro v1 (And.intro v2 (And.intro v3 v5)))
        rw [v4]
        unfold leafC
        clear hvr hls hob hip hrf ht hd hk9 hk09 hc9 hZ bA hR9 v1 v2 v3 v4 v5
        obtain ⟨R, hR⟩ : ∃ R, R = c.take.isN := ⟨_, rfl⟩
        rw [← hR] at HV ⊢
        clear hR
        go_wp2_with (first
          | refine wpList_store_mid (by rfl) 55 _ _ (by rfl) w.heap.size 0 #[.int .i64 kk, .string tt, .bool false, .slice none 0 0, .slice none 0 0, .int .i64 ln, .int .i64 co] (by rfl) (by rfl) (unhide HT) infoLt (dt.one_cells (cs := [.int .i64 kk, .string tt, .bool false, .slice none 0 0, .slice none 0 0, .int .i64 ln, .int .i64 co]) (by rfl)) ?_)
        refine bodyPost_ret (rgn.result_row_tmp rfl _ _ w.heap.size 0 [.int .i64 kk, .string tt, .bool false, .slice none 0 0, .slice none 0 0, .int .i64 ln, .int .i64 co] _ rfl (World.rangeAt_setCells_same _ _ _ _ (unhide HT)) Tryz.underlying55 rfl infoLt) rfl ?_
        rw [unhide hs2]
        obtain ⟨v1, v2, v3, v5⟩ := unhide HV
        rw [v1, v2, v3, v5]
        exact ⟨_, [], rfl, ⟨leaf_shape kk tt false ln co, leaf_ow _ kk tt false ln co, List.nodup_nil, by simp⟩, (unhide HC).out hne hnp _ _, (unhide HK).out (Nat.le_refl _) _ _⟩
      · cases hP2 : c.isP bLb
        · cases hP3 : c.isP bLc
          · have hs2 := hide (show litS L true c = (none, c.stop 70) from by rw [unhide hS2, if_neg (fun e => by exact absurd e.2 (by simp)), if_neg (by rw [hP2]; simp), if_neg (by rw [hP3]; simp)])
            clear hS2
            go_enter Tryz.func32, Tryz.ntmps32
            go_wp2_with fail
            refine ((unhide hd) _ ((unhide bA) _)).mono ?_
            rintro e w1 ⟨rfl, rfl⟩
            go_wp2_with fail
            refine ((unhide ht) _ ((unhide bA) _)).mono ?_
            rintro e w1 ⟨rfl, b1⟩
            have bw1 := ((unhide bA) _).trans (b1.mono ((unhide bA) _).size)
            have c2 := b1.alloc b1.size (.cells #[.int .i64 t.k, .int .i64 t.ln, .int .i64 t.co, .int .i64 t.fr, .int .i64 t.to, .string t.tx, .string t.va] 32)
            have bw2 := ((unhide bA) _).trans (c2.mono ((unhide bA) _).size)
            go_wp2_with fail
            refine ((unhide hip) bDol _ bw2).mono ?_
            rintro e w3 ⟨rfl, b3⟩
            rw [hP1]
            have c3 := c2.trans (b3.mono c2.size)
            have bw3 := ((unhide bA) _).trans (c3.mono ((unhide bA) _).size)
            go_wp2_with fail
            refine ((unhide hip) bLb _ bw3).mono ?_
            rintro e w4 ⟨rfl, b4⟩
            rw [hP2]
            have c4 := c3.trans (b4.mono c3.size)
            have bw4 := ((unhide bA) _).trans (c4.mono ((unhide bA) _).size)
            go_wp2_with fail
            refine ((unhide hip) bLc _ bw4).mono ?_
            rintro e w5 ⟨rfl, b5⟩
            rw [hP3]
            have c5 := c4.trans (b5.mono c4.size)
            have bw5 := ((unhide bA) _).trans (c5.mono ((unhide bA) _).size)
            go_wp2_with fail
            refine ((unhide hrf) _ bw5).mono ?_
            rintro e w9 ⟨rfl, hc9, hk9⟩
            have hk09 := (Kp.of c5).trans hk9
            have hR9 := (unhide hZ) _ w9 hk09
            have HT := hide (dt.there_cells hR9 (o := 0) (n := 7) (by decide))
            have HK := hide ((Kp.of ((unhide bA) _)).trans hk09)
            have HC := hide hc9
            clear hvr hls hob hip hrf ht hd hk9 hk09 hc9 hZ bA hR9
            go_wp2_with (first
              | refine wpList_store_mid (by rfl) 55 _ _ (by rfl) w.heap.size 0 #[.int .i64 0, .string ⟨#[]⟩, .bool false, .slice none 0 0, .slice none 0 0, .int .i64 0, .int .i64 0] (by rfl) (by rfl) (unhide HT) infoLt (dt.one_cells (cs := [.int .i64 0, .string ⟨#[]⟩, .bool false, .slice none 0 0, .slice none 0 0, .int .i64 0, .int .i64 0]) (by rfl)) ?_)
            refine bodyPost_ret (rgn.result_row_tmp rfl _ _ w.heap.size 0 [.int .i64 0, .string ⟨#[]⟩, .bool false, .slice none 0 0, .slice none 0 0, .int .i64 0, .int .i64 0] _ rfl (World.rangeAt_setCells_same _ _ _ _ (unhide HT)) Tryz.underlying55 rfl infoLt) rfl ?_
            rw [unhide hs2]
            exact ⟨_, [], rfl, ⟨leaf_shape 0 em false 0 0, leaf_ow _ 0 em false 0 0, List.nodup_nil, by simp⟩, (unhide HC).out hne hnp _ _, (unhide HK).out (Nat.le_refl _) _ _⟩
          · have hs2 := hide (show litS L true c = objS L c from by rw [unhide hS2, if_neg (fun e => by exact absurd e.2 (by simp)), if_neg (by rw [hP2]; simp), if_pos hP3])
            clear hS2
            go_enter Tryz.func32, Tryz.ntmps32
            go_wp2_with fail
            refine ((unhide hd) _ ((unhide bA) _)).mono ?_
            rintro e w1 ⟨rfl, rfl⟩
            go_wp2_with fail
            refine ((unhide ht) _ ((unhide bA) _)).mono ?_
            rintro e w1 ⟨rfl, b1⟩
            have bw1 := ((unhide bA) _).trans (b1.mono ((unhide bA) _).size)
            have c2 := b1.alloc b1.size (.cells #[.int .i64 t.k, .int .i64 t.ln, .int .i64 t.co, .int .i64 t.fr, .int .i64 t.to, .string t.tx, .string t.va] 32)
            have bw2 := ((unhide bA) _).trans (c2.mono ((unhide bA) _).size)
            go_wp2_with fail
            refine ((unhide hip) bDol _ bw2).mono ?_
            rintro e w3 ⟨rfl, b3⟩
            rw [hP1]
            have c3 := c2.trans (b3.mono c2.size)
            have bw3 := ((unhide bA) _).trans (c3.mono ((unhide bA) _).size)
            go_wp2_with fail
            refine ((unhide hip) bLb _ bw3).mono ?_
            rintro e w4 ⟨rfl, b4⟩
            rw [hP2]
            have c4 := c3.trans (b4.mono c3.size)
            have bw4 := ((unhide bA) _).trans (c4.mono ((unhide bA) _).size)
            go_wp2_with fail
            refine ((unhide hip) bLc _ bw4).mono ?_
            rintro e w5 ⟨rfl, b5⟩
            rw [hP3]
            have c5 := c4.trans (b5.mono c4.size)
            have bw5 := ((unhide bA) _).trans (c5.mono ((unhide bA) _).size)
            go_wp2_with fail
            refine ((unhide hob) _ bw5).mono ?_
            rintro e w9 ⟨cs, F, rfl, hpo, hc9, hk9⟩
            obtain ⟨kk, tt, bl, ai, ni, ci, af, nf, cf, ln, co, rfl⟩ := hpo.shape
            have hk09 := (Kp.of c5).trans hk9
            have hR9 := (unhide hZ) _ w9 hk09
            have HT := hide (dt.there_cells hR9 (o := 0) (n := 7) (by decide))
            have HK := hide ((Kp.of ((unhide bA) _)).trans hk09)
            have HC := hide hc9
            have HP := hide hpo
            have hlo := hide (show w.heap.size < w5.heap.size from by have := c5.size; simp at this; omega)
            clear hvr hls hob hip hrf ht hd hk9 hk09 hc9 hZ bA hR9 hpo
            go_wp2_with (first
              | refine wpList_store_mid (by rfl) 55 _ _ (by rfl) w.heap.size 0 #[.int .i64 kk, .string tt, .bool bl, .slice ai ni ci, .slice af nf cf, .int .i64 ln, .int .i64 co] (by rfl) (by rfl) (unhide HT) infoLt (dt.one_cells (cs := [.int .i64 kk, .string tt, .bool bl, .slice ai ni ci, .slice af nf cf, .int .i64 ln, .int .i64 co]) (by rfl)) ?_)
            refine bodyPost_ret (rgn.result_row_tmp rfl _ _ w.heap.size 0 [.int .i64 kk, .string tt, .bool bl, .slice ai ni ci, .slice af nf cf, .int .i64 ln, .int .i64 co] _ rfl (World.rangeAt_setCells_same _ _ _ _ (unhide HT)) Tryz.underlying55 rfl infoLt) rfl ?_
            rw [unhide hs2]
            exact ⟨_, F, rfl, ⟨(unhide HP).shape, ow_out (unhide HP).own (fun hm => by have := ((unhide HP).rng _ hm).1; have := unhide hlo; omega) _ _, (unhide HP).nodup, fun b hb => ⟨by have := ((unhide HP).rng b hb).1; have := unhide hlo; omega, by rw [dt.size_setCells]; exact ((unhide HP).rng b hb).2⟩⟩, (unhide HC).out hne hnp _ _, (unhide HK).out (Nat.le_refl _) _ _⟩
        · have hs2 := hide (show litS L true c = listS L c from by rw [unhide hS2, if_neg (fun e => by exact absurd e.2 (by simp)), if_pos hP2])
          clear hS2
          go_enter Tryz.func32, Tryz.ntmps32
          go_wp2_with fail
          refine ((unhide hd) _ ((unhide bA) _)).mono ?_
          rintro e w1 ⟨rfl, rfl⟩
          go_wp2_with fail
          refine ((unhide ht) _ ((unhide bA) _)).mono ?_
          rintro e w1 ⟨rfl, b1⟩
          have bw1 := ((unhide bA) _).trans (b1.mono ((unhide bA) _).size)
          have c2 := b1.alloc b1.size (.cells #[.int .i64 t.k, .int .i64 t.ln, .int .i64 t.co, .int .i64 t.fr, .int .i64 t.to, .string t.tx, .string t.va] 32)
          have bw2 := ((unhide bA) _).trans (c2.mono ((unhide bA) _).size)
          go_wp2_with fail
          refine ((unhide hip) bDol _ bw2).mono ?_
          rintro e w3 ⟨rfl, b3⟩
          rw [hP1]
          have c3 := c2.trans (b3.mono c2.size)
          have bw3 := ((unhide bA) _).trans (c3.mono ((unhide bA) _).size)
          go_wp2_with fail
          refine ((unhide hip) bLb _ bw3).mono ?_
          rintro e w4 ⟨rfl, b4⟩
          rw [hP2]
          have c4 := c3.trans (b4.mono c3.size)
          have bw4 := ((unhide bA) _).trans (c4.mono ((unhide bA) _).size)
          go_wp2_with fail
          refine ((unhide hls) _ bw4).mono ?_
          rintro e w9 ⟨cs, F, rfl, hpo, hc9, hk9⟩
          obtain ⟨kk, tt, bl, ai, ni, ci, af, nf, cf, ln, co, rfl⟩ := hpo.shape
          have hk09 := (Kp.of c4).trans hk9
          have hR9 := (unhide hZ) _ w9 hk09
          have HT := hide (dt.there_cells hR9 (o := 0) (n := 7) (by decide))
          have HK := hide ((Kp.of ((unhide bA) _)).trans hk09)
          have HC := hide hc9
          have HP := hide hpo
          have hlo := hide (show w.heap.size < w4.heap.size from by have := c4.size; simp at this; omega)
          clear hvr hls hob hip hrf ht hd hk9 hk09 hc9 hZ bA hR9 hpo
          go_wp2_with (first
            | refine wpList_store_mid (by rfl) 55 _ _ (by rfl) w.heap.size 0 #[.int .i64 kk, .string tt, .bool bl, .slice ai ni ci, .slice af nf cf, .int .i64 ln, .int .i64 co] (by rfl) (by rfl) (unhide HT) infoLt (dt.one_cells (cs := [.int .i64 kk, .string tt, .bool bl, .slice ai ni ci, .slice af nf cf, .int .i64 ln, .int .i64 co]) (by rfl)) ?_)
          refine bodyPost_ret (rgn.result_row_tmp rfl _ _ w.heap.size 0 [.int .i64 kk, .string tt, .bool bl, .slice ai ni ci, .slice af nf cf, .int .i64 ln, .int .i64 co] _ rfl (World.rangeAt_setCells_same _ _ _ _ (unhide HT)) Tryz.underlying55 rfl infoLt) rfl ?_
          rw [unhide hs2]
          exact ⟨_, F, rfl, ⟨(unhide HP).shape, ow_out (unhide HP).own (fun hm => by have := ((unhide HP).rng _ hm).1; have := unhide hlo; omega) _ _, (unhide HP).nodup, fun b hb => ⟨by have := ((unhide HP).rng b hb).1; have := unhide hlo; omega, by rw [dt.size_setCells]; exact ((unhide HP).rng b hb).2⟩⟩, (unhide HC).out hne hnp _ _, (unhide HK).out (Nat.le_refl _) _ _⟩
  · have ekd : (c.kd != 0) = true := by simpa using hkd
    have hs2 := hide (show litS L ct c = (none, c) from by unfold litS; rw [if_pos hkd])
    rw [ekd] at hd
    have HC := hide (h.below ((unhide bA) (.cells #[.int .i64 0, .string ⟨#[]⟩, .bool false, .slice none 0 0, .slice none 0 0, .int .i64 0, .int .i64 0] 55)))
    clear h hls' hob' hkd ekd ht hip hrf hls hob hZ
    unfold ptr at hd ⊢
    go_enter Tryz.func32, Tryz.ntmps32
    go_wp2_with fail
    refine ((unhide hd) _ ((unhide bA) _)).mono ?_
    rintro e w1 ⟨rfl, rfl⟩
    clear hd
    go_wp2_with fail
    refine bodyPost_ret (rgn.result_row_tmp rfl _ _ w.heap.size 0 [.int .i64 0, .string ⟨#[]⟩, .bool false, .slice none 0 0, .slice none 0 0, .int .i64 0, .int .i64 0] _ rfl (dt.range_cells (heap_alloc_new w _) 0 _ (fun j u hu => by rw [Nat.zero_add]; simpa using hu)) Tryz.underlying55 rfl infoLt) rfl ?_
    rw [unhide hs2]
    exact ⟨_, [], rfl, ⟨leaf_shape 0 em false 0 0, leaf_ow _ 0 em false 0 0, List.nodup_nil, by simp⟩, unhide HC, Kp.of ((unhide bA) _)⟩
end Go.Proofs.YtejjnhcmpiamiaaGreat.cu
namespace Go.Proofs.YtejjnhcmpiamiaaGreat.cu
open Go.ChangeShapes Go.WideShapes Go.ChangeAt Go.RowKit
open ints (hide unhide)
open dt (Dt Kp RowAt Ow Grow)
open mem (Row)
set_option linter.unusedVariables false
set_option linter.unusedSimpArgs false
theorem litF_dead (ct : Bool) : ∀ (f : Nat) (c : Cu), c.kd ≠ 0 → (litF ct f c).1 = none
  | 0, c, h => rfl
  | f + 1, c, h => by
    show (litS (litF ct f) ct c).1 = none
    unfold litS
    rw [if_pos h]
theorem dead_stop {c : Cu} (k : Int) (h : c.kd ≠ 0) : c.stop k = c := if_neg h
theorem name_dead (ct : Bool) (f : Nat) (c : Cu) (h : (litF ct f (c.name.want bCol)).1.isSome = true) : c.isN = true := by
  cases hN : c.isN
  · exfalso
    have h1 : c.name = c.stop 70 := by unfold Cu.name; rw [hN]; rfl
    have h2 : (c.stop 70).kd ≠ 0 := by
      unfold Cu.stop
      split
      · show (70 : Int) ≠ 0; decide
      · assumption
    have h3 : (c.stop 70).want bCol = c.stop 70 := by
      unfold Cu.want
      have : (c.stop 70).isP bCol = false := by unfold Cu.isP; simp [h2]
      rw [this]
      exact dead_stop 70 h2
    rw [h1, h3, litF_dead ct f _ h2] at h
    cases h
  · rfl
theorem litF_ok (ct : Bool) : ∀ (f : Nat) (c : Cu), c.Ok → c.ts.length ≤ 1099511627777 → c.ts.length ≤ f + c.ix → LitAt (litF ct f) ct c
  | 0, c, hc, hl, hf => by have := hc.lt; omega
  | f + 1, c, hc, hl, hf =>
    lit_ok (litF ct f) ct c hc
      (list_ok (litF ct f) ct c hc hl (litF_goes ct f) (fun cc h1 h2 h3 => litF_ok ct f cc h1 (by rw [h2]; exact hl) (by rw [h2]; omega)))
      (obj_ok (litF ct f) ct c hc hl (litF_goes ct f) (fun cc h1 h2 h3 => field_ok _ ct cc (arg_ok (litF ct f) ct cc h1
        (by
          have s1 := name_stp h1
          have s2 := want_stp s1.ok bCol
          have s := s1.trans s2
          exact litF_ok ct f (cc.name.want bCol) s.ok (by rw [s.ts, h2]; exact hl) (by rw [s.ts, h2]; have := s.ix; omega))
        (name_dead ct f cc))))
def readL (l : List Int) (ct : Bool) (d : Int) : Option Dt × Cu :=
  if (litF ct (lx.tks l 0).length (newS l d)).1.isSome then (if (litF ct (lx.tks l 0).length (newS l d)).2.finB then (litF ct (lx.tks l 0).length (newS l d)).1 else none, (litF ct (lx.tks l 0).length (newS l d)).2.fin) else (none, (litF ct (lx.tks l 0).length (newS l d)).2)
set_option maxRecDepth 4000 in
set_option maxHeartbeats 2000000 in
theorem readLit_ok (a : Option Addr) (n c : Nat) (l : List Int) (ct : Bool) (d : Int) (w : World) (h : Row .u8 w a n c l) (hn : n ≤ 1099511627776) (hp : lx.Plain l) (hd : (Lit.int .i64 d).wf = true) :
    Calls Tryz.prog 13 #[.slice a n c, .bool ct, .int .i64 d] w fun e w' => ∃ cs F fs, e = .returned (.tuple #[.agg cs.toArray, .agg fs.toArray]) ∧ LitPost ((readL l ct d).1.getD zeroD) w w' cs F ∧ FltAt w.heap.size w' (readL l ct d).2 fs ∧ Below w.heap.size w w' := by
  have hN := hide (fun W (bb : Below w.heap.size w W) => new_ok a n c l d W (h.below bb) hn hp hd)
  have hok := newS_ok l d
  have hlen : (newS l d).ts.length ≤ 1099511627777 := by
    have := tksF_len l (l.length + 1) 0 (Nat.zero_le _)
    show (lx.tksF l (l.length + 1) 0).length ≤ _
    rw [h.len] at this ⊢
    omega
  have hT := hide (litF_ok ct (lx.tks l 0).length (newS l d) hok hlen (Nat.le_add_right _ _))
  have hg := hide (litF_goes ct (lx.tks l 0).length (newS l d) hok).1
  unfold readL
  obtain ⟨U, hU⟩ : ∃ U, U = litF ct (lx.tks l 0).length (newS l d) := ⟨_, rfl⟩
  unfold LitAt at hT
  rw [← hU] at hT hg ⊢
  obtain ⟨c0, hc0⟩ : ∃ c0, c0 = newS l d := ⟨_, rfl⟩
  rw [← hc0] at hN hT hg
  clear h hU hok hlen hc0
  obtain ⟨r, C⟩ := U
  go_enter Tryz.func13, Tryz.ntmps13
  go_wp2_with fail
  have bW0 : Below w.heap.size w ((w.alloc (.cells #[Value.int .i64 0, .string { data := #[] }, .bool false, .slice none 0 0, .slice none 0 0, .int .i64 0, .int .i64 0] 55)).alloc (.cells #[Value.int .i64 0, .slice none 0 0, .slice none 0 0] 39)) := ((Below.refl _ _).alloc (Nat.le_refl _) _).alloc (by simp) _
  have hR1 : ((w.alloc (.cells #[Value.int .i64 0, .string { data := #[] }, .bool false, .slice none 0 0, .slice none 0 0, .int .i64 0, .int .i64 0] 55)).alloc (.cells #[Value.int .i64 0, .slice none 0 0, .slice none 0 0] 39)).heap[w.heap.size]? = some (.cells #[Value.int .i64 0, .string { data := #[] }, .bool false, .slice none 0 0, .slice none 0 0, .int .i64 0, .int .i64 0] 55 (0, 0)) := (Below.heap_alloc _ _ w.heap.size (by simp)).trans (heap_alloc_new w _)
  have hR2 : ((w.alloc (.cells #[Value.int .i64 0, .string { data := #[] }, .bool false, .slice none 0 0, .slice none 0 0, .int .i64 0, .int .i64 0] 55)).alloc (.cells #[Value.int .i64 0, .slice none 0 0, .slice none 0 0] 39)).heap[w.heap.size + 1]? = some (.cells #[Value.int .i64 0, .slice none 0 0, .slice none 0 0] 39 (0, 0)) := by
    have := heap_alloc_new (w.alloc (.cells #[Value.int .i64 0, .string { data := #[] }, .bool false, .slice none 0 0, .slice none 0 0, .int .i64 0, .int .i64 0] 55)) (.cells #[Value.int .i64 0, .slice none 0 0, .slice none 0 0] 39)
    simpa using this
  have hz0 : w.heap.size + 1 < ((w.alloc (.cells #[Value.int .i64 0, .string { data := #[] }, .bool false, .slice none 0 0, .slice none 0 0, .int .i64 0, .int .i64 0] 55)).alloc (.cells #[Value.int .i64 0, .slice none 0 0, .slice none 0 0] 39)).heap.size := by simp
  obtain ⟨W0, hW0⟩ : ∃ W0, W0 = (w.alloc (.cells #[Value.int .i64 0, .string { data := #[] }, .bool false, .slice none 0 0, .slice none 0 0, .int .i64 0, .int .i64 0] 55)).alloc (.cells #[Value.int .i64 0, .slice none 0 0, .slice none 0 0] 39) := ⟨_, rfl⟩
  rw [← hW0] at bW0 hR1 hR2 hz0 ⊢
  clear hW0
  refine ((unhide hN) W0 bW0).mono ?_
  rintro e w1 ⟨B, p, rfl, hB, hp0, hc1, b1⟩
  have hTB := hide ((unhide hT) B p)
  have hend := hide (fun W (hc : CurAt W B p C) => end_ok B p C W hc)
  have htold := hide (fun W (D : Cu) (hc : CurAt W B p D) => told_ok B p D W hc)
  clear hN hT
  unfold ptr at hTB hend htold ⊢
  go_wp2_with fail
  refine ((unhide hTB) w1 hc1).mono ?_
  rintro e w2 ⟨cs, F, rfl, hpo, hc2, hk2⟩
  obtain ⟨kk, tt, bl, ai, ni, ci, af, nf, cf, ln, co, rfl⟩ := hpo.shape
  have HP := hide hpo
  have hrF : ∀ b ∈ F, W0.heap.size ≤ b ∧ b < w2.heap.size := fun b hb => ⟨Nat.le_trans b1.size (hpo.rng b hb).1, (hpo.rng b hb).2⟩
  clear hpo
  have hB1 := hc1.lt
  have b02 : Below W0.heap.size W0 w2 := b1.trans (hk2.below hB b1.size)
  have HC2 := hide hc2
  clear hTB hc1 hc2 hk2 b1
  have bA2 := hide (fun o => show Below w2.heap.size w2 (w2.alloc o) from (Below.refl _ _).alloc (Nat.le_refl _) _)
  cases r with
  | none =>
    go_wp2_with fail
    have bT := b02.alloc b02.size (.cells #[.int .i64 kk, .string tt, .bool bl, .slice ai ni ci, .slice af nf cf, .int .i64 ln, .int .i64 co] 55)
    refine ((unhide htold) _ C ((unhide HC2).below ((unhide bA2) _))).mono ?_
    rintro e w5 ⟨fs, rfl, hflt, b5⟩
    have b05 : Below W0.heap.size W0 w5 := bT.trans (b5.mono bT.size)
    have hne12 : w.heap.size ≠ w.heap.size + 1 := by omega
    have HT1 := hide (show w5.there w.heap.size 0 7 from dt.there_cells ((b05.block w.heap.size (by omega)).trans hR1) (by decide))
    have HT2 := hide (show w5.there (w.heap.size + 1) 0 fs.length from by rw [hflt.three.1]; exact dt.there_cells ((b05.block (w.heap.size + 1) hz0).trans hR2) (by decide))
    have HX0 := res2 hne12 [.int .i64 0, .string ⟨#[]⟩, .bool false, .slice none 0 0, .slice none 0 0, .int .i64 0, .int .i64 0] fs (unhide HT1) (unhide HT2)
    obtain ⟨W6, e6⟩ : ∃ W6, W6 = w5.setCells w.heap.size 0 (#[.int .i64 0, .string ⟨#[]⟩, .bool false, .slice none 0 0, .slice none 0 0, .int .i64 0, .int .i64 0] : Array Value).toList := ⟨_, rfl⟩
    have HX := hide (show W6.there (w.heap.size + 1) 0 _ ∧ (W6.setCells (w.heap.size + 1) 0 fs).rangeAt w.heap.size 0 [.int .i64 0, .string ⟨#[]⟩, .bool false, .slice none 0 0, .slice none 0 0, .int .i64 0, .int .i64 0] ∧ (W6.setCells (w.heap.size + 1) 0 fs).rangeAt (w.heap.size + 1) 0 fs from by rw [e6]; exact HX0)
    have E6 := hide e6
    clear HX0 e6
    have HI := hide (show (Tryz.prog.info? 39).map (·.size) = some fs.length from by rw [hflt.three.1]; exact infoFl)
    have HO := hide (dt.one_cells hflt.three.2)
    have HF := hide hflt
    have hbw := hide (bW0.trans (b05.mono bW0.size))
    have hlo := hide (show w.heap.size + 1 < _ ∧ w.heap.size < _ from And.intro (Nat.lt_of_lt_of_le hz0 bT.size) (Nat.lt_of_lt_of_le (Nat.lt_of_succ_lt hz0) bT.size))
    clear b05 b5 htold hflt
    go_wp2_with (first
      | (refine wpList_store_mid (by rfl) 55 _ _ (by rfl) w.heap.size 0 #[.int .i64 0, .string ⟨#[]⟩, .bool false, .slice none 0 0, .slice none 0 0, .int .i64 0, .int .i64 0] (by rfl) (by rfl) (unhide HT1) infoLt (dt.one_cells (cs := [.int .i64 0, .string ⟨#[]⟩, .bool false, .slice none 0 0, .slice none 0 0, .int .i64 0, .int .i64 0]) (by rfl)) ?_; rw [← unhide E6])
      | refine wpList_store_mid (by rfl) 39 _ _ (by rfl) (w.heap.size + 1) 0 fs.toArray (by rfl) (by rfl) (by have := (unhide HX).1; simpa using this) (by have := unhide HI; simpa using this) (unhide HO) ?_)
    refine bodyPost_ret (result_rows2 rfl _ _ w.heap.size 0 [.int .i64 0, .string ⟨#[]⟩, .bool false, .slice none 0 0, .slice none 0 0, .int .i64 0, .int .i64 0] _ rfl (unhide HX).2.1 Tryz.underlying55 rfl infoLt (w.heap.size + 1) 0 fs _ rfl (unhide HX).2.2 Tryz.underlying39 rfl (unhide HI)) rfl ?_
    have e6 := unhide E6
    subst e6
    refine ⟨_, [], _, rfl, ⟨leaf_shape 0 em false 0 0, leaf_ow _ 0 em false 0 0, List.nodup_nil, by simp⟩, ?_, dt.below_setCells _ _ _ _ (dt.below_setCells _ _ _ _ (unhide hbw) (Nat.le_refl _)) (Nat.le_add_right _ 1)⟩
    exact (((unhide HF).out (unhide hlo).2 _ _).out (unhide hlo).1 _ _).mono (Nat.le_of_lt (unhide hlo).2)
  | some it =>
    cases hF : C.finB
    · rw [hF] at hend
      go_wp2_with fail
      refine ((unhide hend) _ ((unhide HC2).below ((unhide bA2) _))).mono ?_
      rintro e w3 ⟨rfl, hc3, hk3⟩
      have bT : Below W0.heap.size W0 w3 := (b02.alloc b02.size _).trans (hk3.below hB (Nat.le_trans b02.size ((unhide bA2) _).size))
      go_wp2_with fail
      refine ((unhide htold) _ C.fin hc3).mono ?_
      rintro e w5 ⟨fs, rfl, hflt, b5⟩
      have b05 : Below W0.heap.size W0 w5 := bT.trans (b5.mono bT.size)
      have hne12 : w.heap.size ≠ w.heap.size + 1 := by omega
      have HT1 := hide (show w5.there w.heap.size 0 7 from dt.there_cells ((b05.block w.heap.size (by omega)).trans hR1) (by decide))
      have HT2 := hide (show w5.there (w.heap.size + 1) 0 fs.length from by rw [hflt.three.1]; exact dt.there_cells ((b05.block (w.heap.size + 1) hz0).trans hR2) (by decide))
      have HX0 := res2 hne12 [.int .i64 0, .string ⟨#[]⟩, .bool false, .slice none 0 0, .slice none 0 0, .int .i64 0, .int .i64 0] fs (unhide HT1) (unhide HT2)
      obtain ⟨W6, e6⟩ : ∃ W6, W6 = w5.setCells w.heap.size 0 (#[.int .i64 0, .string ⟨#[]⟩, .bool false, .slice none 0 0, .slice none 0 0, .int .i64 0, .int .i64 0] : Array Value).toList := ⟨_, rfl⟩
      have HX := hide (show W6.there (w.heap.size + 1) 0 _ ∧ (W6.setCells (w.heap.size + 1) 0 fs).rangeAt w.heap.size 0 [.int .i64 0, .string ⟨#[]⟩, .bool false, .slice none 0 0, .slice none 0 0, .int .i64 0, .int .i64 0] ∧ (W6.setCells (w.heap.size + 1) 0 fs).rangeAt (w.heap.size + 1) 0 fs from by rw [e6]; exact HX0)
      have E6 := hide e6
      clear HX0 e6
      have HI := hide (show (Tryz.prog.info? 39).map (·.size) = some fs.length from by rw [hflt.three.1]; exact infoFl)
      have HO := hide (dt.one_cells hflt.three.2)
      have HF := hide hflt
      have hbw := hide (bW0.trans (b05.mono bW0.size))
      have hlo := hide (show w.heap.size + 1 < _ ∧ w.heap.size < _ from And.intro (Nat.lt_of_lt_of_le hz0 bT.size) (Nat.lt_of_lt_of_le (Nat.lt_of_succ_lt hz0) bT.size))
      clear b05 b5 htold hflt
      go_wp2_with (first
        | (refine wpList_store_mid (by rfl) 55 _ _ (by rfl) w.heap.size 0 #[.int .i64 0, .string ⟨#[]⟩, .bool false, .slice none 0 0, .slice none 0 0, .int .i64 0, .int .i64 0] (by rfl) (by rfl) (unhide HT1) infoLt (dt.one_cells (cs := [.int .i64 0, .string ⟨#[]⟩, .bool false, .slice none 0 0, .slice none 0 0, .int .i64 0, .int .i64 0]) (by rfl)) ?_; rw [← unhide E6])
        | refine wpList_store_mid (by rfl) 39 _ _ (by rfl) (w.heap.size + 1) 0 fs.toArray (by rfl) (by rfl) (by have := (unhide HX).1; simpa using this) (by have := unhide HI; simpa using this) (unhide HO) ?_)
      refine bodyPost_ret (result_rows2 rfl _ _ w.heap.size 0 [.int .i64 0, .string ⟨#[]⟩, .bool false, .slice none 0 0, .slice none 0 0, .int .i64 0, .int .i64 0] _ rfl (unhide HX).2.1 Tryz.underlying55 rfl infoLt (w.heap.size + 1) 0 fs _ rfl (unhide HX).2.2 Tryz.underlying39 rfl (unhide HI)) rfl ?_
      have e6 := unhide E6
      subst e6
      refine ⟨_, [], _, rfl, ⟨leaf_shape 0 em false 0 0, leaf_ow _ 0 em false 0 0, List.nodup_nil, by simp⟩, ?_, dt.below_setCells _ _ _ _ (dt.below_setCells _ _ _ _ (unhide hbw) (Nat.le_refl _)) (Nat.le_add_right _ 1)⟩
      exact (((unhide HF).out (unhide hlo).2 _ _).out (unhide hlo).1 _ _).mono (Nat.le_of_lt (unhide hlo).2)
    · rw [hF] at hend
      go_wp2_with fail
      refine ((unhide hend) _ ((unhide HC2).below ((unhide bA2) _))).mono ?_
      rintro e w3 ⟨rfl, hc3, hk3⟩
      have hI3 := (hk3.block w2.heap.size (by simp) (by have := (unhide HC2).lt; omega)).trans (heap_alloc_new w2 _)
      have b03 : Below W0.heap.size W0 w3 := (b02.alloc b02.size _).trans (hk3.below hB (Nat.le_trans b02.size ((unhide bA2) _).size))
      have i0 : w3.cell? ⟨w2.heap.size, 0, none⟩ = some (.int .i64 kk) := (dt.cell_cells hI3 0).trans rfl
      have i1 : w3.cell? ⟨w2.heap.size, 1, none⟩ = some (.string tt) := (dt.cell_cells hI3 1).trans rfl
      have i2 : w3.cell? ⟨w2.heap.size, 2, none⟩ = some (.bool bl) := (dt.cell_cells hI3 2).trans rfl
      have i3 : w3.cell? ⟨w2.heap.size, 3, none⟩ = some (.slice ai ni ci) := (dt.cell_cells hI3 3).trans rfl
      have i4 : w3.cell? ⟨w2.heap.size, 4, none⟩ = some (.slice af nf cf) := (dt.cell_cells hI3 4).trans rfl
      have i5 : w3.cell? ⟨w2.heap.size, 5, none⟩ = some (.int .i64 ln) := (dt.cell_cells hI3 5).trans rfl
      have i6 : w3.cell? ⟨w2.heap.size, 6, none⟩ = some (.int .i64 co) := (dt.cell_cells hI3 6).trans rfl
      have HW3 := hide (show Ow w3 (it) [.int .i64 kk, .string tt, .bool bl, .slice ai ni ci, .slice af nf cf, .int .i64 ln, .int .i64 co] F from ow_kp (ow_below (unhide HP).own ((unhide bA2) _) (fun b hb => (hrF b hb).2)) hk3 (Nat.lt_of_lt_of_le (Nat.lt_succ_self B) (Nat.le_refl _)) (fun b hb => ⟨by have h1 := (unhide HP).rng b hb; have h2 := hB1; omega, by have := (hrF b hb).2; simp; omega⟩))
      have hz23 := hide (show w2.heap.size ≤ w3.heap.size from by have := hk3.size; simp at this; omega)
      have hne12 : w.heap.size ≠ w.heap.size + 1 := by omega
      have HT1 := hide (show w3.there w.heap.size 0 7 from dt.there_cells ((b03.block w.heap.size (by omega)).trans hR1) (by decide))
      have HT2 := hide (show w3.there (w.heap.size + 1) 0 3 from dt.there_cells ((b03.block (w.heap.size + 1) hz0).trans hR2) (by decide))
      have HX0 := res2 hne12 [.int .i64 kk, .string tt, .bool bl, .slice ai ni ci, .slice af nf cf, .int .i64 ln, .int .i64 co] [.int .i64 0, .slice none 0 0, .slice none 0 0] (unhide HT1) (unhide HT2)
      obtain ⟨W6, e6⟩ : ∃ W6, W6 = w3.setCells w.heap.size 0 (#[.int .i64 kk, .string tt, .bool bl, .slice ai ni ci, .slice af nf cf, .int .i64 ln, .int .i64 co] : Array Value).toList := ⟨_, rfl⟩
      have HX := hide (show W6.there (w.heap.size + 1) 0 _ ∧ (W6.setCells (w.heap.size + 1) 0 [.int .i64 0, .slice none 0 0, .slice none 0 0]).rangeAt w.heap.size 0 [.int .i64 kk, .string tt, .bool bl, .slice ai ni ci, .slice af nf cf, .int .i64 ln, .int .i64 co] ∧ (W6.setCells (w.heap.size + 1) 0 [.int .i64 0, .slice none 0 0, .slice none 0 0]).rangeAt (w.heap.size + 1) 0 [.int .i64 0, .slice none 0 0, .slice none 0 0] from by rw [e6]; exact HX0)
      have E6 := hide e6
      clear HX0 e6
      have hfin := hide (show C.fin = C ∧ C.kd = 0 from ⟨by unfold Cu.fin; rw [hF]; rfl, (of_decide_eq_true hF).1⟩)
      have hbw := hide (bW0.trans (b03.mono bW0.size))
      clear hI3 b03 hk3 hc3 hend htold b02 bA2
      go_wp2_with (first
        | (refine wpList_store_mid (by rfl) 55 _ _ (by rfl) w.heap.size 0 #[.int .i64 kk, .string tt, .bool bl, .slice ai ni ci, .slice af nf cf, .int .i64 ln, .int .i64 co] (by rfl) (by rfl) (unhide HT1) infoLt (dt.one_cells (cs := [.int .i64 kk, .string tt, .bool bl, .slice ai ni ci, .slice af nf cf, .int .i64 ln, .int .i64 co]) (by rfl)) ?_; rw [← unhide E6])
        | refine wpList_store_mid (by rfl) 39 _ _ (by rfl) (w.heap.size + 1) 0 #[.int .i64 0, .slice none 0 0, .slice none 0 0] (by rfl) (by rfl) (unhide HX).1 infoFl (dt.one_cells (cs := [.int .i64 0, .slice none 0 0, .slice none 0 0]) (by rfl)) ?_)
      refine bodyPost_ret (result_rows2 rfl _ _ w.heap.size 0 [.int .i64 kk, .string tt, .bool bl, .slice ai ni ci, .slice af nf cf, .int .i64 ln, .int .i64 co] _ rfl (unhide HX).2.1 Tryz.underlying55 rfl infoLt (w.heap.size + 1) 0 [.int .i64 0, .slice none 0 0, .slice none 0 0] _ rfl (unhide HX).2.2 Tryz.underlying39 rfl infoFl) rfl ?_
      have e6 := unhide E6
      subst e6
      refine ⟨_, F, _, rfl, ⟨⟨kk, tt, bl, ai, ni, ci, af, nf, cf, ln, co, rfl⟩, ow_out (ow_out (unhide HW3) (fun hm => by have := (hrF _ hm).1; omega) _ _) (fun hm => by have := (hrF _ hm).1; omega) _ _, (unhide HP).nodup, fun b hb => ⟨by have := (hrF b hb).1; have := bW0.size; omega, by rw [dt.size_setCells, dt.size_setCells]; have := (hrF b hb).2; have := unhide hz23; omega⟩⟩, ?_, dt.below_setCells _ _ _ _ (dt.below_setCells _ _ _ _ (unhide hbw) (Nat.le_refl _)) (Nat.le_add_right _ 1)⟩
      unfold FltAt
      show (if C.fin.kd = 0 then _ else _)
      rw [(unhide hfin).1, if_pos (unhide hfin).2]
end Go.Proofs.YtejjnhcmpiamiaaGreat.cu
namespace Go.Proofs.YtejjnhcmpiamiaaGreat.cu
open Go.ChangeShapes Go.WideShapes Go.ChangeAt Go.RowKit
open ints (hide unhide)
open dt (Dt Kp RowAt Ow Grow)
set_option linter.unusedVariables false
set_option linter.unusedSimpArgs false
theorem there_new (w : World) (cs : Array Value) (t : TypeId) (W : World) (hb : Below (w.alloc (.cells cs t)).heap.size (w.alloc (.cells cs t)) W) : W.there w.heap.size 0 cs.size :=
  dt.there_cells ((hb.block w.heap.size (by simp)).trans (heap_alloc_new w _)) (by simp)
def nmZ : List Value := [.string ⟨#[]⟩, .int .i64 0, .int .i64 0]
theorem nameD (v : Value) (w : World) (h : Dead w v) : Calls Tryz.prog 45 #[v, .bool false] w fun e w' => e = .returned (.tuple #[.agg nmZ.toArray, .bool false]) ∧ Below w.heap.size w w' := by
  unfold nmZ
  have bA := hide (fun o => show Below w.heap.size w (w.alloc o) from (Below.refl _ _).alloc (Nat.le_refl _) _)
  have hh := hide (fun W (bb : Below w.heap.size w W) => holdsD v W (h.below bb))
  clear h
  go_enter Tryz.func45, Tryz.ntmps45
  go_wp2_with fail
  refine ((unhide hh) _ ((unhide bA) _)).mono ?_
  rintro e w1 ⟨rfl, b1⟩
  have hth := hide (there_new w _ _ w1 b1)
  have HB := hide (((unhide bA) _).trans (b1.mono ((unhide bA) _).size))
  clear b1 bA hh
  go_wp2_with (first
    | refine wpList_store_mid (by rfl) 70 _ _ (by rfl) w.heap.size 0 #[.string ⟨#[]⟩, .int .i64 0, .int .i64 0] (by rfl) (by rfl) (unhide hth) infoNm (dt.one_cells (cs := [.string ⟨#[]⟩, .int .i64 0, .int .i64 0]) (by rfl)) ?_)
  refine bodyPost_ret (rgn.result_row_tmp rfl _ _ w.heap.size 0 [.string ⟨#[]⟩, .int .i64 0, .int .i64 0] _ rfl (World.rangeAt_setCells_same _ _ _ _ (unhide hth)) Tryz.underlying70 rfl infoNm) rfl ?_
  exact ⟨rfl, dt.below_setCells _ _ _ _ (unhide HB) (Nat.le_refl _)⟩
theorem wantWordD (v : Value) (a : Option Addr) (n c : Nat) (w : World) (h : Dead w v) : Calls Tryz.prog 28 #[v, .slice a n c] w fun e w' => e = .returned (.tuple #[.agg nmZ.toArray, .bool false]) ∧ Below w.heap.size w w' := by
  have bA := hide (fun o => show Below w.heap.size w (w.alloc o) from (Below.refl _ _).alloc (Nat.le_refl _) _)
  have hi := hide (fun W (bb : Below w.heap.size w W) => isWordD v a n c W (h.below bb))
  have hn := hide (fun W (bb : Below w.heap.size w W) => nameD v W (h.below bb))
  unfold nmZ at hn ⊢
  clear h
  go_enter Tryz.func28, Tryz.ntmps28
  go_wp2_with fail
  refine ((unhide hi) _ ((unhide bA) _)).mono ?_
  rintro e w1 ⟨rfl, b1⟩
  have bw1 := ((unhide bA) _).trans (b1.mono ((unhide bA) _).size)
  go_wp2_with fail
  refine ((unhide hn) w1 bw1).mono ?_
  rintro e w2 ⟨rfl, b2⟩
  have hth := hide (there_new w _ _ w2 (b1.trans (b2.mono b1.size)))
  have HB := hide (bw1.trans (b2.mono bw1.size))
  clear b1 b2 bA hn hi bw1
  go_wp2_with (first
    | refine wpList_store_mid (by rfl) 70 _ _ (by rfl) w.heap.size 0 #[.string ⟨#[]⟩, .int .i64 0, .int .i64 0] (by rfl) (by rfl) (unhide hth) infoNm (dt.one_cells (cs := [.string ⟨#[]⟩, .int .i64 0, .int .i64 0]) (by rfl)) ?_)
  refine bodyPost_ret (rgn.result_row_tmp rfl _ _ w.heap.size 0 [.string ⟨#[]⟩, .int .i64 0, .int .i64 0] _ rfl (World.rangeAt_setCells_same _ _ _ _ (unhide hth)) Tryz.underlying70 rfl infoNm) rfl ?_
  exact ⟨rfl, dt.below_setCells _ _ _ _ (unhide HB) (Nat.le_refl _)⟩
theorem nameButD (v : Value) (a : Option Addr) (n c : Nat) (w : World) (h : Dead w v) : Calls Tryz.prog 29 #[v, .slice a n c] w fun e w' => e = .returned (.tuple #[.agg nmZ.toArray, .bool false]) ∧ Below w.heap.size w w' := by
  have bA := hide (fun o => show Below w.heap.size w (w.alloc o) from (Below.refl _ _).alloc (Nat.le_refl _) _)
  have hi := hide (fun W (bb : Below w.heap.size w W) => isNameD v W (h.below bb))
  have hn := hide (fun W (bb : Below w.heap.size w W) => nameD v W (h.below bb))
  unfold nmZ at hn ⊢
  clear h
  go_enter Tryz.func29, Tryz.ntmps29
  go_wp2_with fail
  refine ((unhide hi) _ ((unhide bA) _)).mono ?_
  rintro e w1 ⟨rfl, b1⟩
  have bw1 := ((unhide bA) _).trans (b1.mono ((unhide bA) _).size)
  go_wp2_with fail
  refine ((unhide hn) w1 bw1).mono ?_
  rintro e w2 ⟨rfl, b2⟩
  have hth := hide (there_new w _ _ w2 (b1.trans (b2.mono b1.size)))
  have HB := hide (bw1.trans (b2.mono bw1.size))
  clear b1 b2 bA hn hi bw1
  go_wp2_with (first
    | refine wpList_store_mid (by rfl) 70 _ _ (by rfl) w.heap.size 0 #[.string ⟨#[]⟩, .int .i64 0, .int .i64 0] (by rfl) (by rfl) (unhide hth) infoNm (dt.one_cells (cs := [.string ⟨#[]⟩, .int .i64 0, .int .i64 0]) (by rfl)) ?_)
  refine bodyPost_ret (rgn.result_row_tmp rfl _ _ w.heap.size 0 [.string ⟨#[]⟩, .int .i64 0, .int .i64 0] _ rfl (World.rangeAt_setCells_same _ _ _ _ (unhide hth)) Tryz.underlying70 rfl infoNm) rfl ?_
  exact ⟨rfl, dt.below_setCells _ _ _ _ (unhide HB) (Nat.le_refl _)⟩
def trZ : List Value := [.string ⟨#[]⟩, .string ⟨#[]⟩]
set_option maxRecDepth 4000 in
theorem unmD (v : Value) (w : World) (h : Dead w v) : Calls Tryz.prog 46 #[v] w fun e w' => e = .returned (.tuple #[.agg trZ.toArray, .bool false]) ∧ Below w.heap.size w w' := by
  have bA := hide (fun o => show Below w.heap.size w (w.alloc o) from (Below.refl _ _).alloc (Nat.le_refl _) _)
  have hi := hide (fun W (bb : Below w.heap.size w W) => isPunctD v bLb W (h.below bb))
  have hn := hide (fun W (bb : Below w.heap.size w W) => nameButD v none 0 0 W (h.below bb))
  unfold nmZ at hn
  unfold trZ
  clear h
  go_enter Tryz.func46, Tryz.ntmps46
  go_wp2_with fail
  refine ((unhide hi) _ ((unhide bA) _)).mono ?_
  rintro e w1 ⟨rfl, b1⟩
  have bw1 := ((unhide bA) _).trans (b1.mono ((unhide bA) _).size)
  go_wp2_with fail
  refine ((unhide hn) w1 bw1).mono ?_
  rintro e w2 ⟨rfl, b2⟩
  have b12 := b1.trans (b2.mono b1.size)
  have hth := hide (fun o => there_new w _ _ (w2.alloc o) (b12.alloc b12.size o))
  have bw2 := bw1.trans (b2.mono bw1.size)
  have HB := hide (fun o => bw2.alloc bw2.size o)
  clear b1 b2 bA hn hi bw1 bw2 b12
  go_wp2_with (first
    | refine wpList_store_mid (by rfl) 59 _ _ (by rfl) w.heap.size 0 #[.string ⟨#[]⟩, .string ⟨#[]⟩] (by rfl) (by rfl) ((unhide hth) _) infoTr (dt.one_cells (cs := [.string ⟨#[]⟩, .string ⟨#[]⟩]) (by rfl)) ?_)
  refine bodyPost_ret (rgn.result_row_tmp rfl _ _ w.heap.size 0 [.string ⟨#[]⟩, .string ⟨#[]⟩] _ rfl (World.rangeAt_setCells_same _ _ _ _ ((unhide hth) _)) Tryz.underlying59 rfl infoTr) rfl ?_
  exact ⟨rfl, dt.below_setCells _ _ _ _ ((unhide HB) _) (Nat.le_refl _)⟩
set_option maxRecDepth 4000 in
theorem typeD (v : Value) (w : World) (h : Dead w v) : Calls Tryz.prog 31 #[v] w fun e w' => e = .returned (.tuple #[.agg trZ.toArray, .bool false]) ∧ Below w.heap.size w w' := by
  have bA := hide (fun o => show Below w.heap.size w (w.alloc o) from (Below.refl _ _).alloc (Nat.le_refl _) _)
  have hi := hide (fun W (bb : Below w.heap.size w W) => unmD v W (h.below bb))
  unfold trZ at hi ⊢
  clear h
  go_enter Tryz.func31, Tryz.ntmps31
  go_wp2_with fail
  refine ((unhide hi) _ ((unhide bA) _)).mono ?_
  rintro e w1 ⟨rfl, b1⟩
  have bw1 := ((unhide bA) _).trans (b1.mono ((unhide bA) _).size)
  have hth := hide (fun o => there_new w _ _ (w1.alloc o) (b1.alloc b1.size o))
  have HB := hide (fun o => bw1.alloc bw1.size o)
  clear b1 bA hi bw1
  go_wp2_with (first
    | refine wpList_store_mid (by rfl) 59 _ _ (by rfl) w.heap.size 0 #[.string ⟨#[]⟩, .string ⟨#[]⟩] (by rfl) (by rfl) ((unhide hth) _) infoTr (dt.one_cells (cs := [.string ⟨#[]⟩, .string ⟨#[]⟩]) (by rfl)) ?_)
  refine bodyPost_ret (rgn.result_row_tmp rfl _ _ w.heap.size 0 [.string ⟨#[]⟩, .string ⟨#[]⟩] _ rfl (World.rangeAt_setCells_same _ _ _ _ ((unhide hth) _)) Tryz.underlying59 rfl infoTr) rfl ?_
  exact ⟨rfl, dt.below_setCells _ _ _ _ ((unhide HB) _) (Nat.le_refl _)⟩
set_option maxRecDepth 4000 in
theorem litDead (v : Value) (ct : Bool) (w : World) (h : Dead w v) : Calls Tryz.prog 32 #[v, .bool ct] w fun e w' => e = .returned (.tuple #[.agg (leafC 0 em false 0 0).toArray, .bool false]) ∧ Below w.heap.size w w' := by
  have bA := hide (fun o => show Below w.heap.size w (w.alloc o) from (Below.refl _ _).alloc (Nat.le_refl _) _)
  have hd := hide h
  clear h
  go_enter Tryz.func32, Tryz.ntmps32
  go_wp2_with fail
  refine ((unhide hd) _ ((unhide bA) _)).mono ?_
  rintro e w1 ⟨rfl, hw⟩
  subst hw
  have hth := hide (there_new w #[.int .i64 0, .string ⟨#[]⟩, .bool false, .slice none 0 0, .slice none 0 0, .int .i64 0, .int .i64 0] 55 _ (Below.refl _ _))
  go_wp2_with (first
    | refine wpList_store_mid (by rfl) 55 _ _ (by rfl) w.heap.size 0 #[.int .i64 0, .string ⟨#[]⟩, .bool false, .slice none 0 0, .slice none 0 0, .int .i64 0, .int .i64 0] (by rfl) (by rfl) (unhide hth) infoLt (dt.one_cells (cs := [.int .i64 0, .string ⟨#[]⟩, .bool false, .slice none 0 0, .slice none 0 0, .int .i64 0, .int .i64 0]) (by rfl)) ?_)
  refine bodyPost_ret (rgn.result_row_tmp rfl _ _ w.heap.size 0 [.int .i64 0, .string ⟨#[]⟩, .bool false, .slice none 0 0, .slice none 0 0, .int .i64 0, .int .i64 0] _ rfl (World.rangeAt_setCells_same _ _ _ _ (unhide hth)) Tryz.underlying55 rfl infoLt) rfl ?_
  exact ⟨rfl, dt.below_setCells _ _ _ _ ((unhide bA) _) (Nat.le_refl _)⟩
theorem argsD (v : Value) (ct : Bool) (w : World) (h : Dead w v) : Calls Tryz.prog 33 #[v, .bool ct] w fun e w' => e = .returned (.tuple #[.slice none 0 0, .bool false]) ∧ Below w.heap.size w w' := by
  have hi := hide (isPunctD v ⟨#[40]⟩ w h)
  have hd := hide h
  clear h
  go_enter Tryz.func33, Tryz.ntmps33
  go_wp2_with fail
  refine (unhide hi).mono ?_
  rintro e w1 ⟨rfl, b1⟩
  go_wp2_with fail
  refine ((unhide hd) w1 b1).mono ?_
  rintro e w2 ⟨rfl, hw⟩
  obtain rfl : w1 = w2 := hw.symm
  go_wp2_with fail
  go_ret2
  exact ⟨rfl, b1⟩
theorem dirsD (v : Value) (ct : Bool) (w : World) (h : Dead w v) : Calls Tryz.prog 34 #[v, .bool ct] w fun e w' => e = .returned (.tuple #[.slice none 0 0, .bool false]) ∧ Below w.heap.size w w' := by
  have hi := hide (isPunctD v ⟨#[64]⟩ w h)
  have hd := hide h
  clear h
  go_enter Tryz.func34, Tryz.ntmps34
  go_wp2_with fail
  refine wp_loop_rounds 1 ?_
  rw [rounds_succ]
  go_wp2_with fail
  refine (unhide hi).mono ?_
  rintro e w1 ⟨rfl, b1⟩
  go_wp2_with fail
  refine ((unhide hd) w1 b1).mono ?_
  rintro e w2 ⟨rfl, hw⟩
  obtain rfl : w1 = w2 := hw.symm
  go_wp2_with fail
  go_ret2
  exact ⟨rfl, b1⟩
end Go.Proofs.YtejjnhcmpiamiaaGreat.cu
namespace Go.Proofs.YtejjnhcmpiamiaaGreat.cu
open Go.ChangeShapes Go.WideShapes Go.ChangeAt Go.RowKit
set_option linter.unusedVariables false
theorem two_alloc (w : World) (o o' : Obj) : Below w.heap.size w ((w.alloc o).alloc o') := ((Below.refl _ _).alloc (Nat.le_refl _) o).alloc (by simp) o'
theorem two_at (w : World) (cs ds : Array Value) (t u : TypeId) : ((w.alloc (.cells cs t)).alloc (.cells ds u)).heap[w.heap.size]? = some (.cells cs t (0, 0)) ∧ ((w.alloc (.cells cs t)).alloc (.cells ds u)).heap[w.heap.size + 1]? = some (.cells ds u (0, 0)) := by
  refine ⟨(Below.heap_alloc _ _ w.heap.size (by simp)).trans (heap_alloc_new w _), ?_⟩
  have := heap_alloc_new (w.alloc (.cells cs t)) (.cells ds u)
  simpa using this
end Go.Proofs.YtejjnhcmpiamiaaGreat.cu
namespace Go.Proofs.YtejjnhcmpiamiaaGreat.cu
open Go.ChangeShapes Go.WideShapes Go.ChangeAt Go.RowKit
open ints (hide unhide)
open dt (Dt Kp RowAt Ow Grow)
set_option linter.unusedVariables false
set_option linter.unusedSimpArgs false
/-- nil, and the zero cursor -/
def Blank (w : World) (v : Value) : Prop := ∀ W, Below w.heap.size w W → Calls Tryz.prog 20 #[v] W fun e w' => e = .returned (.bool true) ∧ w' = W
theorem Blank.below {w w' : World} {v : Value} (h : Blank w v) (hb : Below w.heap.size w w') : Blank w' v := fun W bb => h W (hb.trans (bb.mono hb.size))
theorem blank_nil (w : World) : Blank w (.pointer none) := fun W bb => by
  go_enter Tryz.func20, Tryz.ntmps20
  go_wp2_with fail
  go_ret
  exact ⟨rfl, rfl⟩
def zeroC : Array Value := #[.slice none 0 0, .int .i64 0, .int .i64 0, .int .i64 0, .int .i64 0]
theorem blank_zero (w : World) (B : Nat) (h : w.heap[B]? = some (.cells zeroC 44 (0, 0))) : Blank w (ptr B) := fun W bb => by
  have hB : B < w.heap.size := (Array.getElem?_eq_some_iff.1 h).1
  have d0 : W.cell? ⟨B, 0, none⟩ = some (.slice none 0 0) := (dt.cell_cells ((bb.block B hB).trans h) 0).trans rfl
  unfold ptr
  go_enter Tryz.func20, Tryz.ntmps20
  go_wp2_with fail
  go_ret
  exact ⟨rfl, rfl⟩
theorem Blank.dead {w : World} {v : Value} (h : Blank w v) : Dead w v := fun W bb => by
  have hb := hide (h W bb)
  clear h bb
  go_enter Tryz.func41, Tryz.ntmps41
  go_wp2_with fail
  refine (unhide hb).mono ?_
  rintro e w1 ⟨rfl, rfl⟩
  go_wp2_with fail
  go_ret
  exact ⟨rfl, rfl⟩
theorem infoNt : (Tryz.prog.info? 74).map (·.size) = some 3 := by kernel_rfl
set_option maxRecDepth 4000 in
theorem noteD (v : Value) (w : World) (h : Dead w v) : Calls Tryz.prog 30 #[v] w fun e w' => e = .returned (.tuple #[.agg #[.bool false, .bool false, .string ⟨#[]⟩], .bool false]) ∧ Below w.heap.size w w' := by
  have bA := hide (fun o => show Below w.heap.size w (w.alloc o) from (Below.refl _ _).alloc (Nat.le_refl _) _)
  have hd := hide h
  clear h
  go_enter Tryz.func30, Tryz.ntmps30
  go_wp2_with fail
  refine ((unhide hd) _ ((unhide bA) _)).mono ?_
  rintro e w1 ⟨rfl, hw⟩
  subst hw
  have hth := hide (there_new w #[.bool false, .bool false, .string ⟨#[]⟩] 74 _ (Below.refl _ _))
  go_wp2_with (first
    | refine wpList_store_mid (by rfl) 74 _ _ (by rfl) w.heap.size 0 #[.bool false, .bool false, .string ⟨#[]⟩] (by rfl) (by rfl) (unhide hth) infoNt (dt.one_cells (cs := [.bool false, .bool false, .string ⟨#[]⟩]) (by rfl)) ?_)
  refine bodyPost_ret (rgn.result_row_tmp rfl _ _ w.heap.size 0 [.bool false, .bool false, .string ⟨#[]⟩] _ rfl (World.rangeAt_setCells_same _ _ _ _ (unhide hth)) Tryz.underlying74 rfl infoNt) rfl ?_
  exact ⟨rfl, dt.below_setCells _ _ _ _ ((unhide bA) _) (Nat.le_refl _)⟩
set_option maxRecDepth 4000 in
theorem tokenBl (v : Value) (w : World) (h : Blank w v) : Calls Tryz.prog 8 #[v] w fun e w' => e = .returned (.agg Tk.zero.cells.toArray) ∧ Below w.heap.size w w' := by
  have bA := hide (fun o => show Below w.heap.size w (w.alloc o) from (Below.refl _ _).alloc (Nat.le_refl _) _)
  have hd := hide h
  clear h
  go_enter Tryz.func8, Tryz.ntmps8
  go_wp2_with fail
  refine ((unhide hd) _ ((unhide bA) _)).mono ?_
  rintro e w1 ⟨rfl, hw⟩
  subst hw
  have hth := hide (there_new w #[.int .i64 0, .int .i64 0, .int .i64 0, .int .i64 0, .int .i64 0, .string ⟨#[]⟩, .string ⟨#[]⟩] 32 _ (Below.refl _ _))
  go_wp2_with (first
    | refine wpList_store_mid (by rfl) 32 _ _ (by rfl) w.heap.size 0 #[.int .i64 0, .int .i64 0, .int .i64 0, .int .i64 0, .int .i64 0, .string ⟨#[]⟩, .string ⟨#[]⟩] (by rfl) (by rfl) (unhide hth) lx.infoTk (dt.one_cells (cs := [.int .i64 0, .int .i64 0, .int .i64 0, .int .i64 0, .int .i64 0, .string ⟨#[]⟩, .string ⟨#[]⟩]) (by rfl)) ?_)
  refine bodyPost_ret (rgn.result_row rfl _ _ w.heap.size 0 [.int .i64 0, .int .i64 0, .int .i64 0, .int .i64 0, .int .i64 0, .string ⟨#[]⟩, .string ⟨#[]⟩] _ rfl (World.rangeAt_setCells_same _ _ _ _ (unhide hth)) Tryz.underlying32 rfl lx.infoTk) rfl ?_
  exact ⟨rfl, dt.below_setCells _ _ _ _ ((unhide bA) _) (Nat.le_refl _)⟩
def fltZ : List Value := [.int .i64 0, .slice none 0 0, .slice none 0 0]
set_option maxRecDepth 4000 in
theorem toldBl (v : Value) (w : World) (h : Blank w v) : Calls Tryz.prog 21 #[v] w fun e w' => e = .returned (.agg fltZ.toArray) ∧ Below w.heap.size w w' := by
  have bA := hide (fun o => show Below w.heap.size w (w.alloc o) from (Below.refl _ _).alloc (Nat.le_refl _) _)
  have hd := hide h
  clear h
  unfold fltZ
  go_enter Tryz.func21, Tryz.ntmps21
  go_wp2_with fail
  refine ((unhide hd) _ ((unhide bA) _)).mono ?_
  rintro e w1 ⟨rfl, hw⟩
  subst hw
  have hth := hide (there_new w #[.int .i64 0, .slice none 0 0, .slice none 0 0] 39 _ (Below.refl _ _))
  go_wp2_with (first
    | refine wpList_store_mid (by rfl) 39 _ _ (by rfl) w.heap.size 0 #[.int .i64 0, .slice none 0 0, .slice none 0 0] (by rfl) (by rfl) (unhide hth) infoFl (dt.one_cells (cs := [.int .i64 0, .slice none 0 0, .slice none 0 0]) (by rfl)) ?_)
  refine bodyPost_ret (rgn.result_row rfl _ _ w.heap.size 0 [.int .i64 0, .slice none 0 0, .slice none 0 0] _ rfl (World.rangeAt_setCells_same _ _ _ _ (unhide hth)) Tryz.underlying39 rfl infoFl) rfl ?_
  exact ⟨rfl, dt.below_setCells _ _ _ _ ((unhide bA) _) (Nat.le_refl _)⟩
set_option maxRecDepth 4000 in
/-- Fault, over what told answers -/
theorem fault_ok (v : Value) (w : World) (Q : List Value → World → Prop) (hT : ∀ W, Below w.heap.size w W → w.heap.size < W.heap.size → Calls Tryz.prog 21 #[v] W fun e w' => ∃ k a n c, e = .returned (.agg #[.int .i64 k, .slice a n c, .slice none 0 0]) ∧ Q [.int .i64 k, .slice a n c, .slice none 0 0] w' ∧ Below W.heap.size W w')
    (hQ : ∀ cs w1 w2, Q cs w1 → Below w1.heap.size w1 w2 → Q cs w2) (hQ2 : ∀ cs w1 vs, Q cs w1 → Q cs (w1.setCells w.heap.size 0 vs)) :
    Calls Tryz.prog 10 #[v] w fun e w' => ∃ k a n c, e = .returned (.tuple #[.agg #[.int .i64 k, .slice a n c, .slice none 0 0], .bool (k != 0)]) ∧ Q [.int .i64 k, .slice a n c, .slice none 0 0] w' ∧ Below w.heap.size w w' := by
  have bA := hide (fun o => show Below w.heap.size w (w.alloc o) from (Below.refl _ _).alloc (Nat.le_refl _) _)
  have HT := hide hT
  have H1 := hide hQ
  have H2 := hide hQ2
  clear hT hQ hQ2
  go_enter Tryz.func10, Tryz.ntmps10
  go_wp2_with fail
  refine ((unhide HT) _ ((unhide bA) _) (by simp)).mono ?_
  rintro e w1 ⟨k, a, n, c, rfl, hq, b1⟩
  have bw1 := ((unhide bA) _).trans (b1.mono ((unhide bA) _).size)
  have hz1 : w.heap.size < w1.heap.size := by have := b1.size; simp at this; omega
  obtain ⟨Y, hY⟩ : ∃ Y, Y = w1.alloc (.cells #[.int .i64 k, .slice a n c, .slice none 0 0] 39) := ⟨_, rfl⟩
  have bY : Below w1.heap.size w1 Y := by rw [hY]; exact (Below.refl _ _).alloc (Nat.le_refl _) _
  have hYc : Y.heap[w1.heap.size]? = some (.cells #[.int .i64 k, .slice a n c, .slice none 0 0] 39 (0, 0)) := by rw [hY]; exact heap_alloc_new w1 _
  have hYs : w1.heap.size < Y.heap.size := by rw [hY]; simp
  have b1Y := b1.trans (bY.mono b1.size)
  have bwY := bw1.trans (bY.mono bw1.size)
  have HQ := (unhide H1) _ _ Y hq bY
  go_wp2_with fail
  rw [← hY]
  clear hY b1 bw1 hq HT bA bY
  have bD : Below Y.heap.size Y { Y with drawn := Y.drawn + 1 } := (Below.refl _ _).drew
  have hS0 : Below w.heap.size w { Y with drawn := Y.drawn + 1 } ∧ ({ Y with drawn := Y.drawn + 1 } : World).heap[w1.heap.size]? = some (.cells #[.int .i64 k, .slice a n c, .slice none 0 0] 39 (0, 0)) := ⟨bwY.trans (bD.mono bwY.size), (bD.block _ hYs).trans hYc⟩
  have hth : ({ Y with drawn := Y.drawn + 1 } : World).there w.heap.size 0 3 := there_new w #[.int .i64 0, .slice none 0 0, .slice none 0 0] 39 _ (b1Y.trans (bD.mono b1Y.size))
  have HQ2 := (unhide H1) _ _ { Y with drawn := Y.drawn + 1 } HQ bD
  refine wp_region_noPanic ?_
  refine wp_region_held (S := fun w' => Below w.heap.size w w' ∧ w'.heap[w1.heap.size]? = some (.cells #[.int .i64 k, .slice a n c, .slice none 0 0] 39 (0, 0))) mixed ?_
  refine wpAnyH_take (i := 0) (v := ?v1) rfl (by kernel_rfl) (by kernel_rfl) (by kernel_rfl) (fun _ _ _ h => h) (Or.inl ⟨by rfl, ?hy1⟩) hS0 ?_
  case hy1 => (intro w' hw'; have q0 := (dt.cell_cells hw'.2 0).trans rfl; have q1 := (dt.cell_cells hw'.2 1).trans rfl; have q2 := (dt.cell_cells hw'.2 2).trans rfl; go_simp; try with_reducible rfl)
  simp only [List.getElem_toArray, List.getElem_cons_zero, List.getElem_cons_succ, Act.put, List.setIfInBounds_toArray, List.set_cons_zero, List.set_cons_succ]
  refine wpAnyH_take (i := 1) (v := ?v2) rfl (by kernel_rfl) (by kernel_rfl) (by kernel_rfl) (fun _ _ _ h => h) (Or.inl ⟨by rfl, ?hy2⟩) hS0 ?_
  case hy2 => (intro w' hw'; skip; go_simp; try with_reducible rfl)
  simp only [List.getElem_toArray, List.getElem_cons_zero, List.getElem_cons_succ, Act.put, List.setIfInBounds_toArray, List.set_cons_zero, List.set_cons_succ]
  refine wpAnyH_take (i := 2) (v := ?v3) rfl (by kernel_rfl) (by kernel_rfl) (by kernel_rfl) (fun _ _ _ h => h) (Or.inl ⟨by rfl, ?hy3⟩) hS0 ?_
  case hy3 => (intro w' hw'; have q0 := (dt.cell_cells hw'.2 0).trans rfl; go_simp; try with_reducible rfl)
  simp only [List.getElem_toArray, List.getElem_cons_zero, List.getElem_cons_succ, Act.put, List.setIfInBounds_toArray, List.set_cons_zero, List.set_cons_succ]
  refine wpAnyH_take (i := 3) (v := ?v4) rfl (by kernel_rfl) (by kernel_rfl) (by kernel_rfl) (fun _ _ _ h => h) (Or.inl ⟨by rfl, ?hy4⟩) hS0 ?_
  case hy4 => (intro w' hw'; skip; go_simp; try with_reducible rfl)
  simp only [List.getElem_toArray, List.getElem_cons_zero, List.getElem_cons_succ, Act.put, List.setIfInBounds_toArray, List.set_cons_zero, List.set_cons_succ]
  refine rgn.one (i := 4) _ rfl (by kernel_rfl) (by rfl) ?_
  simp only [List.getElem_toArray, List.getElem_cons_zero, List.getElem_cons_succ, Act.put, List.setIfInBounds_toArray, List.set_cons_zero, List.set_cons_succ]
  refine wp_store_mid 39 _ _ (by rfl) w.heap.size 0 #[.int .i64 k, .slice a n c, .slice none 0 0] (by rfl) (by rfl) hth infoFl (dt.one_cells (cs := [.int .i64 k, .slice a n c, .slice none 0 0]) (by rfl)) ?_
  have hS3 : Below w.heap.size w (({ Y with drawn := Y.drawn + 1 } : World).setCells w.heap.size 0 [.int .i64 k, .slice a n c, .slice none 0 0]) ∧ (({ Y with drawn := Y.drawn + 1 } : World).setCells w.heap.size 0 [.int .i64 k, .slice a n c, .slice none 0 0]).heap[w1.heap.size]? = some (.cells #[.int .i64 k, .slice a n c, .slice none 0 0] 39 (0, 0)) := ⟨dt.below_setCells _ _ _ _ hS0.1 (Nat.le_refl _), (dt.heap_setCells w.heap.size w1.heap.size (by omega) _ 0 _).trans hS0.2⟩
  refine ⟨hS3, ?_⟩
  clear hS0
  have hS0 := hS3
  try simp only [List.getElem_toArray, List.getElem_cons_zero, List.getElem_cons_succ, Act.put, List.setIfInBounds_toArray, List.set_cons_zero, List.set_cons_succ]
  refine rgn.take (i := 5) _ (.bool (k != 0)) rfl (by kernel_rfl) (by kernel_rfl) (by kernel_rfl) (fun _ _ _ h => h) (by rfl) hS0 (fun w' hw' => by go_simp) ?_
  simp only [List.getElem_toArray, List.getElem_cons_zero, List.getElem_cons_succ, Act.put, List.setIfInBounds_toArray, List.set_cons_zero, List.set_cons_succ]
  refine wpAnyH_done (by kernel_rfl) ?_ _; refine NoPanic.normal ?_
  go_wp2_with fail
  refine bodyPost_ret (rgn.result_row_tmp rfl _ _ w.heap.size 0 [.int .i64 k, .slice a n c, .slice none 0 0] _ rfl (World.rangeAt_setCells_same _ _ _ _ hth) Tryz.underlying39 rfl infoFl) rfl ?_
  exact ⟨k, a, n, c, rfl, (unhide H2) _ _ _ HQ2, hS3.1⟩
theorem nest_nil (w : World) : Calls Tryz.prog 9 #[.pointer none] w fun e w' => e = .returned (.int .i64 0) ∧ w' = w := by
  go_enter Tryz.func9, Tryz.ntmps9
  go_wp2_with fail
  go_ret
  exact ⟨rfl, rfl⟩
theorem nest_at (w : World) (B : Nat) (k : Int) (h : w.cell? ⟨B, 2, none⟩ = some (.int .i64 k)) : Calls Tryz.prog 9 #[ptr B] w fun e w' => e = .returned (.int .i64 k) ∧ w' = w := by
  unfold ptr
  go_enter Tryz.func9, Tryz.ntmps9
  go_wp2_with fail
  go_ret
  exact ⟨rfl, rfl⟩
/-- the same faults -/
theorem steps_nil (w : World) : Calls Tryz.prog 37 #[.slice none 0 0, .slice none 0 0] w fun e w' => e = .returned (.bool true) ∧ w' = w := by
  go_enter Tryz.func37, Tryz.ntmps37
  go_wp2_with fail
  refine wp_loop_rounds 1 ?_
  rw [rounds_succ]
  go_wp2_with fail
  go_ret
  exact ⟨rfl, rfl⟩
theorem pos_nil (w : World) : Calls Tryz.prog 36 #[.slice none 0 0, .slice none 0 0] w fun e w' => e = .returned (.int .i64 0) ∧ w' = w := by
  go_enter Tryz.func36, Tryz.ntmps36
  go_wp2_with fail
  refine wp_loop_rounds 1 ?_
  rw [rounds_succ]
  go_wp2_with fail
  go_ret
  exact ⟨rfl, rfl⟩
end Go.Proofs.YtejjnhcmpiamiaaGreat.cu
namespace Go.Proofs.YtejjnhcmpiamiaaGreat.cu
open dt (Dt)
set_option linter.unusedVariables false
set_option linter.unusedSimpArgs false
theorem stop_kd (c : Cu) (k : Int) (hk : k ≠ 0) : (c.stop k).kd ≠ 0 := by
  unfold Cu.stop
  split
  · exact hk
  · assumption
theorem stop_dead (c : Cu) (k : Int) (h : c.kd ≠ 0) : c.stop k = c := if_neg h
/-- nothing read is a fault -/
def Faults {A : Type} (E : Cu → Option A × Cu) (b : Nat) : Prop := ∀ c, c.Ok → c.ts.length ≤ b + c.ix → (E c).1 = none → (E c).2.kd ≠ 0
theorem brkF_faults {E : Cu → Option Dt × Cu} (hG : Goes E) (b : Nat) (hE : Faults E b) (right : ByteArray) (least : Nat) : ∀ (g : Nat) (l : List Dt) (c : Cu), c.Ok → c.ts.length ≤ b + c.ix → c.ts.length ≤ g + c.ix → (brkF E right least g l c).1 = none → (brkF E right least g l c).2.kd ≠ 0
  | 0, l, c, h, hb, hg, hn => by have := h.lt; omega
  | g + 1, l, c, h, hb, hg, hn => by
    simp only [brkF] at hn ⊢
    split
    · rename_i hc
      rw [if_pos hc] at hn
      cases hq : (E c).1 with
      | none => exact hE c h hb hq
      | some d =>
        rw [hq] at hn
        have h1 := hG c h
        have h2 := h1.2 (by rw [hq]; rfl)
        exact brkF_faults hG b hE right least g _ _ h1.1.ok (by rw [h1.1.ts]; omega) (by rw [h1.1.ts]; omega) hn
    · rename_i hc
      rw [if_neg hc] at hn
      cases hn
theorem opn_kd {c : Cu} {p : ByteArray} (h : c.opB p = false) : (c.opn p).kd ≠ 0 := by
  unfold Cu.opB at h
  unfold Cu.opn
  split
  · rename_i hp
    rw [hp] at h
    simp only [Bool.true_and, decide_eq_false_iff_not] at h
    rw [if_neg h]
    exact stop_kd _ _ (by decide)
  · exact stop_kd _ _ (by decide)
theorem brk_faults {E : Cu → Option Dt × Cu} (hG : Goes E) (b : Nat) (hE : Faults E b) (left right : ByteArray) (least : Nat) (c : Cu) (h : c.Ok) (hb : c.ts.length ≤ b + 1 + c.ix) (hn : (brk E left right least c).1 = none) : (brk E left right least c).2.kd ≠ 0 := by
  unfold brk at hn ⊢
  have ho := opn_stp h left
  split
  · rename_i hB
    rw [if_pos hB] at hn
    have hx := opn_ix hB
    exact brkF_faults hG b hE right least c.ts.length [] _ ho.ok (by rw [ho.ts, hx]; omega) (by rw [ho.ts]; omega) hn
  · rename_i hB
    exact opn_kd (by simpa using hB)
theorem argS_faults {L : Cu → Option Dt × Cu} (b : Nat) (hL : Faults L b) : Faults (argS L) b := by
  intro c h hb hn
  have h1 := name_stp h
  have h2 := want_stp h1.ok bCol
  have h3 := h1.trans h2
  unfold argS at hn ⊢
  cases hq : (L (c.name.want bCol)).1 with
  | none => exact hL _ h3.ok (by rw [h3.ts]; have := h3.ix; omega) hq
  | some v => rw [hq] at hn; cases hn
theorem name_kd {c : Cu} (h : c.isN = false) : c.name.kd ≠ 0 := by
  unfold Cu.name
  rw [h]
  exact stop_kd _ _ (by decide)
theorem litF_faults (ct : Bool) : ∀ f, Faults (litF ct f) f
  | 0 => fun c h hb => by have := h.lt; omega
  | f + 1 => by
    intro c h hb hn
    have ih := litF_faults ct f
    change (litS (litF ct f) ct c).1 = none at hn
    show (litS (litF ct f) ct c).2.kd ≠ 0
    unfold litS at hn ⊢
    split
    · assumption
    rename_i h0
    rw [if_neg h0] at hn
    split
    · rename_i h1; rw [if_pos h1] at hn; cases hn
    rename_i h1; rw [if_neg h1] at hn
    split
    · rename_i h2; rw [if_pos h2] at hn; cases hn
    rename_i h2; rw [if_neg h2] at hn
    split
    · rename_i h3; rw [if_pos h3] at hn; cases hn
    rename_i h3; rw [if_neg h3] at hn
    split
    · rename_i h4; rw [if_pos h4] at hn; cases hn
    rename_i h4; rw [if_neg h4] at hn
    split
    · rename_i h5
      rw [if_pos h5] at hn
      unfold varS at hn ⊢
      split
      · rename_i h6; rw [if_pos h6] at hn; cases hn
      · rename_i h6
        exact name_kd (by simpa using h6)
    rename_i h5; rw [if_neg h5] at hn
    split
    · rename_i h6
      rw [if_pos h6] at hn
      unfold listS at hn ⊢
      cases hq : (brk (litF ct f) bLb bRb 0 c).1 with
      | none => exact brk_faults (litF_goes ct f) f ih bLb bRb 0 c h (by omega) hq
      | some l => rw [hq] at hn; cases hn
    rename_i h6; rw [if_neg h6] at hn
    split
    · rename_i h7
      rw [if_pos h7] at hn
      unfold objS at hn ⊢
      cases hq : (brk (argS (litF ct f)) bLc bRc 0 c).1 with
      | none => exact brk_faults (argS_goes (litF_goes ct f)) f (argS_faults f ih) bLc bRc 0 c h (by omega) hq
      | some l => rw [hq] at hn; cases hn
    · exact stop_kd _ _ (by decide)
mutual
def fvD : Dt → Option (Int × Int)
  | .val (.int .i64 k) (.val _ (.val _ (.lst _ its (.lst _ fls (.val (.int .i64 ln) (.val (.int .i64 co) _)))))) => if k = 1 then some (ln, co) else (fvL its).or (fvG fls)
  | _ => none
def fvL : Dt → Option (Int × Int)
  | .row e r => (fvD e).or (fvL r)
  | _ => none
def fvG : Dt → Option (Int × Int)
  | .row (.val _ v) r => (fvD v).or (fvG r)
  | _ => none
end
def fvF : Dt → Option (Int × Int)
  | .val _ v => fvD v
  | _ => none
theorem fvD_lit (k : Int) (tx : ByteArray) (bl : Bool) (its fls : Dt) (ln co : Int) : fvD (litD k tx bl its fls ln co) = if k = 1 then some (ln, co) else (fvL its).or (fvG fls) := by
  unfold litD
  rw [fvD]
theorem fvD_app (k : Int) (tx : ByteArray) (bl : Bool) (its fls : Dt) (ln co : Int) (e : Dt) : fvD (app (litD k tx bl its fls ln co) e) = fvD (litD k tx bl its fls ln co) := by
  unfold litD
  simp only [app]
  rw [fvD, fvD]
theorem fvL_of : ∀ l : List Dt, fvL (Dt.of l) = l.findSome? fvD
  | [] => by unfold Dt.of; rw [fvL]; rfl; intro e r h; cases h
  | d :: l => by
    unfold Dt.of
    rw [fvL, fvL_of l, List.findSome?_cons]
    cases fvD d <;> rfl
theorem fvG_of : ∀ l : List Dt, (∀ d ∈ l, ∃ v r, d = .val v r) → fvG (Dt.of l) = l.findSome? fvF
  | [], _ => by unfold Dt.of; rw [fvG]; rfl; intro e r r2 h; cases h
  | d :: l, h => by
    obtain ⟨v, r, rfl⟩ := h d (by simp)
    unfold Dt.of
    rw [fvG, fvG_of l (fun x hx => h x (by simp [hx])), List.findSome?_cons]
    show (fvD r).or _ = _
    cases e : fvD r with
    | none => simp [fvF, e]
    | some p => simp [fvF, e]
/-- literals -/
def IsLit : Nat → Dt → Prop
  | 0, _ => False
  | f + 1, d => ∃ k tx bl its fls ln co, d = litD k tx bl (Dt.of its) (Dt.of fls) ln co ∧ (∀ x ∈ its, IsLit f x) ∧ (∀ y ∈ fls, ∃ nm v ln co, y = fldD nm v ln co ∧ IsLit f v)
theorem fvF_fld {f : Nat} {nm : ByteArray} {v : Dt} {ln co : Int} (h : IsLit f v) : fvF (fldD nm v ln co) = fvD v := by
  cases f with
  | zero => exact h.elim
  | succ f =>
    obtain ⟨k, tx, bl, its, fls, ln', co', rfl, _⟩ := h
    unfold fldD fvF
    exact fvD_app ..
/-- with variables, and without -/
def Rel {A : Type} (φ : A → Option (Int × Int)) (r0 r1 : Option A × Cu) : Prop :=
  match r0.1 with
  | none => r1.1 = none
  | some v => match φ v with
    | none => r1 = r0
    | some p => r1.1 = none ∧ r1.2.kd = 70 ∧ (r1.2.tok.ln, r1.2.tok.co) = p
theorem brkF_rel {E0 E1 : Cu → Option Dt × Cu} (φ : Dt → Option (Int × Int)) (hR : ∀ c, Rel φ (E0 c) (E1 c)) (right : ByteArray) (least : Nat) : ∀ (g : Nat) (l : List Dt) (c : Cu), l.findSome? φ = none → Rel (fun l => l.findSome? φ) (brkF E0 right least g l c) (brkF E1 right least g l c)
  | 0, l, c, h => by simp only [brkF]; unfold Rel; rfl
  | g + 1, l, c, h => by
    simp only [brkF]
    by_cases hc : l.length < least ∨ c.isP right = false
    · rw [if_pos hc, if_pos hc]
      have hr := hR c
      unfold Rel at hr
      cases hq : (E0 c).1 with
      | none =>
        rw [hq] at hr
        simp only at hr
        rw [hr]
        unfold Rel
        rfl
      | some d =>
        rw [hq] at hr
        simp only at hr
        cases hf : φ d with
        | none =>
          rw [hf] at hr
          simp only at hr
          rw [hr, hq]
          exact brkF_rel φ hR right least g (l ++ [d]) _ (by rw [List.findSome?_append, h]; simp [hf])
        | some p =>
          rw [hf] at hr
          simp only at hr
          rw [hr.1]
          simp only
          unfold Rel
          have key : ∀ (g : Nat) (m : List Dt) (c : Cu) (l' : List Dt), m.findSome? φ = some p → (brkF E0 right least g m c).1 = some l' → l'.findSome? φ = some p := by
            intro g
            induction g with
            | zero => intro m c l' _ h'; simp [brkF] at h'
            | succ g ih =>
              intro m c l' hm h'
              simp only [brkF] at h'
              split at h'
              · cases hq' : (E0 c).1 with
                | none => rw [hq'] at h'; cases h'
                | some d' =>
                  rw [hq'] at h'
                  exact ih (m ++ [d']) _ l' (by rw [List.findSome?_append, hm]; rfl) h'
              · simp at h'; subst h'; exact hm
          cases hb : (brkF E0 right least g (l ++ [d]) (E0 c).2).1 with
          | none => rfl
          | some l' =>
            have := key g (l ++ [d]) _ l' (by rw [List.findSome?_append, h]; simp [hf]) hb
            simp only [this]
            first
              | exact ⟨rfl, hr.2⟩
              | exact ⟨trivial, hr.2⟩
    · rw [if_neg hc, if_neg hc]
      unfold Rel
      simp only [h]
theorem brk_rel {E0 E1 : Cu → Option Dt × Cu} (φ : Dt → Option (Int × Int)) (hR : ∀ c, Rel φ (E0 c) (E1 c)) (left right : ByteArray) (least : Nat) (c : Cu) : Rel (fun l => l.findSome? φ) (brk E0 left right least c) (brk E1 left right least c) := by
  unfold brk
  split
  · exact brkF_rel φ hR right least _ _ _ rfl
  · unfold Rel
    rfl
/-- what is read is a literal -/
theorem brkF_all {E : Cu → Option Dt × Cu} {p : Dt → Prop} (hE : ∀ c d, (E c).1 = some d → p d) (right : ByteArray) (least : Nat) : ∀ (g : Nat) (l : List Dt) (c : Cu) (l' : List Dt), (∀ d ∈ l, p d) → (brkF E right least g l c).1 = some l' → ∀ d ∈ l', p d
  | 0, l, c, l', _, h => by simp [brkF] at h
  | g + 1, l, c, l', hl, h => by
    simp only [brkF] at h
    split at h
    · cases hq : (E c).1 with
      | none => rw [hq] at h; cases h
      | some d =>
        rw [hq] at h
        exact brkF_all hE right least g (l ++ [d]) _ l' (fun x hx => by
          rcases List.mem_append.1 hx with hx | hx
          · exact hl x hx
          · simp at hx; subst hx; exact hE c x hq) h
    · simp at h; subst h; exact hl
theorem brk_all {E : Cu → Option Dt × Cu} {p : Dt → Prop} (hE : ∀ c d, (E c).1 = some d → p d) (left right : ByteArray) (least : Nat) (c : Cu) (l' : List Dt) (h : (brk E left right least c).1 = some l') : ∀ d ∈ l', p d := by
  unfold brk at h
  split at h
  · exact brkF_all hE right least _ _ _ l' (fun d hd => by cases hd) h
  · cases h
theorem leaf_lit (f : Nat) (k : Int) (tx : ByteArray) (bl : Bool) (ln co : Int) : IsLit (f + 1) (litD k tx bl .nil .nil ln co) := ⟨k, tx, bl, [], [], ln, co, rfl, (fun x hx => by cases hx), (fun x hx => by cases hx)⟩
theorem litF_lit (ct : Bool) : ∀ (f : Nat) (c : Cu) (d : Dt), (litF ct f c).1 = some d → IsLit f d
  | 0, c, d, h => by cases h
  | f + 1, c, d, h => by
    change (litS (litF ct f) ct c).1 = some d at h
    unfold litS at h
    split at h
    · cases h
    split at h
    · simp at h; subst h; exact leaf_lit ..
    split at h
    · simp at h; subst h; exact leaf_lit ..
    split at h
    · simp at h; subst h; exact leaf_lit ..
    split at h
    · simp at h; subst h
      unfold wordD
      split
      · exact leaf_lit ..
      · split <;> exact leaf_lit ..
    split at h
    · unfold varS at h
      split at h
      · simp at h; subst h; exact leaf_lit ..
      · cases h
    split at h
    · unfold listS at h
      cases hq : (brk (litF ct f) bLb bRb 0 c).1 with
      | none => rw [hq] at h; cases h
      | some l =>
        rw [hq] at h
        simp at h
        subst h
        exact ⟨_, _, _, l, [], _, _, rfl, brk_all (fun c d hd => litF_lit ct f c d hd) bLb bRb 0 c l hq, (fun x hx => by cases hx)⟩
    split at h
    · unfold objS at h
      cases hq : (brk (argS (litF ct f)) bLc bRc 0 c).1 with
      | none => rw [hq] at h; cases h
      | some l =>
        rw [hq] at h
        simp at h
        subst h
        refine ⟨_, _, _, [], l, _, _, rfl, (fun x hx => by cases hx), brk_all (p := fun y => ∃ nm v ln co, y = fldD nm v ln co ∧ IsLit f v) (fun c d hd => ?_) bLc bRc 0 c l hq⟩
        unfold argS at hd
        cases hq2 : (litF ct f (c.name.want bCol)).1 with
        | none => rw [hq2] at hd; cases hd
        | some v =>
          rw [hq2] at hd
          simp at hd
          subst hd
          exact ⟨_, v, _, _, rfl, litF_lit ct f _ v hq2⟩
    · cases h
theorem rel_leaf {c c' : Cu} {d : Dt} (h : fvD d = none) : Rel fvD (some d, c) (some d, c) := by
  unfold Rel
  simp only [h]
theorem leaf_fv {k : Int} (hk : k ≠ 1) (tx : ByteArray) (bl : Bool) (ln co : Int) : fvD (litD k tx bl .nil .nil ln co) = none := by
  rw [fvD_lit, if_neg hk]
  have h1 : fvL .nil = none := fvL_of []
  have h2 : fvG .nil = none := fvG_of [] (fun d hd => by cases hd)
  rw [h1, h2]
  rfl
theorem litF_rel : ∀ (f : Nat) (c : Cu), Rel fvD (litF false f c) (litF true f c)
  | 0, c => by unfold Rel; rfl
  | f + 1, c => by
    have ih := litF_rel f
    show Rel fvD (litS (litF false f) false c) (litS (litF true f) true c)
    unfold litS
    by_cases h0 : c.kd ≠ 0
    · rw [if_pos h0, if_pos h0]; unfold Rel; rfl
    rw [if_neg h0, if_neg h0]
    by_cases h1 : c.tok.k = 4
    · rw [if_pos h1, if_pos h1]; exact rel_leaf (c' := c) (leaf_fv (by decide) ..)
    rw [if_neg h1, if_neg h1]
    by_cases h2 : c.tok.k = 5
    · rw [if_pos h2, if_pos h2]; exact rel_leaf (c' := c) (leaf_fv (by decide) ..)
    rw [if_neg h2, if_neg h2]
    by_cases h3 : c.tok.k = 6 ∨ c.tok.k = 7
    · rw [if_pos h3, if_pos h3]; exact rel_leaf (c' := c) (leaf_fv (by decide) ..)
    rw [if_neg h3, if_neg h3]
    by_cases h4 : c.tok.k = 3
    · rw [if_pos h4, if_pos h4]
      refine rel_leaf (c' := c) ?_
      unfold wordD
      split
      · exact leaf_fv (by decide) ..
      · split <;> exact leaf_fv (by decide) ..
    rw [if_neg h4, if_neg h4]
    by_cases h5 : c.isP bDol = true
    · rw [if_pos (show c.isP bDol = true ∧ false = false from ⟨h5, rfl⟩), if_neg (show ¬ (c.isP bDol = true ∧ true = false) from fun e => by cases e.2)]
      have hk := isP_k h5
      have n1 : ¬ c.isP bLb = true := fun e => by have := (isP_k e).2.2; rw [hk.2.2] at this; exact absurd this (by decide)
      have n2 : ¬ c.isP bLc = true := fun e => by have := (isP_k e).2.2; rw [hk.2.2] at this; exact absurd this (by decide)
      rw [if_neg n1, if_neg n2]
      unfold varS
      split
      · unfold Rel
        simp only [fvD_lit, if_true]
        refine ⟨trivial, ?_, ?_⟩
        · unfold Cu.stop; rw [if_pos hk.1]
        · unfold Cu.stop; rw [if_pos hk.1]; rfl
      · unfold Rel
        rfl
    rw [if_neg (show ¬ (c.isP bDol = true ∧ false = false) from fun e => h5 e.1), if_neg (show ¬ (c.isP bDol = true ∧ true = false) from fun e => h5 e.1)]
    by_cases h6 : c.isP bLb = true
    · rw [if_pos h6, if_pos h6]
      have hr := brk_rel fvD ih bLb bRb 0 c
      unfold listS
      unfold Rel at hr ⊢
      cases hq : (brk (litF false f) bLb bRb 0 c).1 with
      | none =>
        rw [hq] at hr
        simp only at hr
        rw [hr]
      | some l =>
        rw [hq] at hr
        simp only at hr
        have hv : ∀ a b, fvD (litD 8 em false (Dt.of l) .nil a b) = l.findSome? fvD := fun a b => by
          rw [fvD_lit, if_neg (by decide), fvL_of]
          have h2 : fvG .nil = none := fvG_of [] (fun d hd => by cases hd)
          rw [h2]
          cases l.findSome? fvD <;> rfl
        simp only [hv]
        cases hf : l.findSome? fvD with
        | none =>
          rw [hf] at hr
          simp only at hr ⊢
          rw [hr, hq]
        | some p =>
          rw [hf] at hr
          simp only at hr ⊢
          rw [hr.1]
          first
            | exact ⟨rfl, hr.2⟩
            | exact ⟨trivial, hr.2⟩
    rw [if_neg h6, if_neg h6]
    by_cases h7 : c.isP bLc = true
    · rw [if_pos h7, if_pos h7]
      have ha : ∀ c, Rel fvF (argS (litF false f) c) (argS (litF true f) c) := fun c => by
        have hr := ih (c.name.want bCol)
        unfold argS
        unfold Rel at hr ⊢
        cases hq : (litF false f (c.name.want bCol)).1 with
        | none =>
          rw [hq] at hr
          simp only at hr
          rw [hr]
        | some v =>
          rw [hq] at hr
          simp only at hr
          have hl := litF_lit false f _ v hq
          simp only [fvF_fld hl]
          cases hf : fvD v with
          | none =>
            rw [hf] at hr
            simp only at hr ⊢
            rw [hr, hq]
          | some p =>
            rw [hf] at hr
            simp only at hr ⊢
            rw [hr.1]
            first
              | exact ⟨rfl, hr.2⟩
              | exact ⟨trivial, hr.2⟩
      have hr := brk_rel fvF ha bLc bRc 0 c
      unfold objS
      unfold Rel at hr ⊢
      cases hq : (brk (argS (litF false f)) bLc bRc 0 c).1 with
      | none =>
        rw [hq] at hr
        simp only at hr
        rw [hr]
      | some l =>
        rw [hq] at hr
        simp only at hr
        have hall : ∀ d ∈ l, ∃ v r, d = .val v r := brk_all (p := fun d => ∃ v r, d = .val v r) (fun c d hd => by
          unfold argS at hd
          cases hq2 : (litF false f (c.name.want bCol)).1 with
          | none => rw [hq2] at hd; cases hd
          | some v => rw [hq2] at hd; simp at hd; subst hd; exact ⟨_, _, rfl⟩) bLc bRc 0 c l hq
        have hv : ∀ a b, fvD (litD 9 em false .nil (Dt.of l) a b) = l.findSome? fvF := fun a b => by
          rw [fvD_lit, if_neg (by decide), fvG_of l hall]
          have h2 : fvL .nil = none := fvL_of []
          rw [h2]
          cases l.findSome? fvF <;> rfl
        simp only [hv]
        cases hf : l.findSome? fvF with
        | none =>
          rw [hf] at hr
          simp only at hr ⊢
          rw [hr, hq]
        | some p =>
          rw [hf] at hr
          simp only at hr ⊢
          rw [hr.1]
          first
            | exact ⟨rfl, hr.2⟩
            | exact ⟨trivial, hr.2⟩
    · rw [if_neg h7, if_neg h7]
      unfold Rel
      rfl
end Go.Proofs.YtejjnhcmpiamiaaGreat.cu
