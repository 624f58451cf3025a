import Derived.Test.YtfegalieiiaopabCw3
namespace Go.Proofs.Ytfegalieiiaopab.cu
open Go.ChangeShapes Go.WideShapes Go.ChangeAt Go.RowKit
open ints (hide unhide)
open dt (Dt Kp RowAt Ow Grow)
set_option linter.unusedVariables false
set_option linter.unusedSimpArgs false
theorem infoFz : ∃ i z, Try.prog.info? 45 = some i ∧ i.zero = some z ∧ i.size = 10 ∧ i.bytes = 128 ∧ z.cells.size = 10 := by
  have hin : (Try.prog.info? 45).map (fun i => (i.bytes, i.size, i.zero.map (·.cells.size))) = some (128, 10, some 10) := by kernel_rfl
  cases hq : Try.prog.info? 45 with
  | none => simp [hq] at hin
  | some i =>
    simp [hq] at hin
    obtain ⟨h1, h2, z, hz, h3⟩ := hin
    exact ⟨i, z, rfl, hz, h2, h1, h3⟩
def BrkPF (r : Option (List Dt)) (lo : Nat) (w' : World) (sl : Value) : Prop := match r with | none => sl = .slice none 0 0 | some l => ∃ G, Grow 45 10 w' lo l sl G
set_option maxRecDepth 4000 in
set_option maxHeartbeats 4000000 in
theorem brkF_ok' (E : Cu → Option Dt × Cu) (ct : Bool) (c : Cu) (left right : ByteArray) (hc0 : c.Ok) (hlen : c.ts.length ≤ 1099511627777) (hG : Goes E) (hE : ∀ cc : Cu, cc.Ok → cc.ts = c.ts → c.ix < cc.ix → FldAt 39 E ct cc) (B p : Nat) (w : World) (h : CurAt w B p c) :
    Calls Try.prog 38 #[ptr B, .string left, .string right, .int .i64 0, .bool ct, .func (.func 39) #[ptr B] #[]] w fun e w' => ∃ sl, e = .returned (.tuple #[sl, .bool (brk E left right 0 c).1.isSome]) ∧ BrkPF (brk E left right 0 c).1 w.heap.size w' sl ∧ CurAt w' B p (brk E left right 0 c).2 ∧ Kp B w w' := by
  have en : ∀ args w, (callFunc 39 args).run Try.prog w = .ok (.enter 39 args) w := fun _ _ => rfl
  have ho := hide (open_ok B p c left w h)
  have hB := h.lt
  have hp := h.plt
  cases hO : c.opB left
  · have hs := hide (show brk E left right 0 c = (none, c.opn left) from by unfold brk; rw [hO]; rfl)
    rw [hO] at ho
    clear h hE
    unfold ptr at ho ⊢
    go_enter Try.func38, Try.ntmps38
    go_wp2_with fail
    refine (unhide ho).mono ?_
    rintro e w1 ⟨rfl, hc1, hk1⟩
    clear ho
    go_wp2_with fail
    go_ret2
    rw [unhide hs]
    exact ⟨_, rfl, rfl, hc1, hk1⟩
  · have hst := opn_stp hc0 left
    have hoi := opn_ix hO
    obtain ⟨R, hR⟩ : ∃ R, R = brkF E right 0 c.ts.length [] (c.opn left) := ⟨_, rfl⟩
    have hs := hide (show brk E left right 0 c = R from by unfold brk; rw [hO, hR]; rfl)
    rw [hO] at ho
    have HR := hide hR.symm
    clear h hR hO
    have hcl := hide (fun W (cc : Cu) (hc : CurAt W B p cc) => close_ok B p cc right W hc)
    have hip := hide (fun W (cc : Cu) (hc : CurAt W B p cc) => isPunct_ok B p cc right W hc)
    have hEE := hide (fun (cc : Cu) (h1 : cc.Ok) (h2 : cc.ts = c.ts) (h3 : c.ix < cc.ix) => hE cc h1 h2 h3 B p)
    clear hE
    unfold ptr at ho hcl hip hEE ⊢
    go_enter Try.func38, Try.ntmps38
    go_wp2_with fail
    refine (unhide ho).mono ?_
    rintro e w1 ⟨rfl, hc1, hk1⟩
    clear ho
    have hz1 := hk1.size
    go_wp2_with fail
    go_loopg [14] c.ts.length (fun g sl wr => ∃ (l : List Dt) (cc : Cu) (Gs : List Nat), Hid (brkF E right 0 g l cc = R) ∧ CurAt wr B p cc ∧ Hid (Grow 45 10 wr w.heap.size l sl Gs) ∧ Kp B w wr ∧ Hid (cc.ts = c.ts) ∧ c.ts.length ≤ g + cc.ix ∧ l.length + 1 + c.ix ≤ cc.ix)
    case atStart => exact ⟨[], c.opn left, [], HR, hc1, hide Grow.nil, hk1, hide hst.ts, Nat.le_add_right _ _, by rw [hoi]; simp; omega⟩
    case round =>
      obtain ⟨l, cc, Gs, hrun, hcc, hgr, hkr, hts, hfu, hll⟩ := hrel
      have hixl := hcc.ok.lt
      rw [unhide hts] at hixl
      obtain ⟨al, cl, hsl⟩ := (unhide hgr).form
      subst hsl
      have hlz : ¬ ((l.length : Int) < 0) := by omega
      obtain ⟨g', rfl⟩ : ∃ g', gk = g' + 1 := ⟨gk - 1, by omega⟩
      have hip2 := hide ((unhide hip) wr cc hcc)
      go_wp2_with fail
      refine (unhide hip2).mono ?_
      rintro e w2 ⟨rfl, b2⟩
      have hc2 := hcc.below b2
      have hgr2 := hide ((unhide hgr).keep b2.size (fun b hb _ => b2.block b hb))
      have hk2 := hkr.trans (Kp.of b2)
      cases hQ : cc.isP right
      · have hrun2 := hide (show (match (E cc).1 with | none => (none, (E cc).2) | some d => brkF E right 0 g' (l ++ [d]) (E cc).2) = R from by
          have e := unhide hrun
          rw [brkF, if_pos (.inr hQ)] at e
          exact e)
        have hgo := hG cc hcc.ok
        have hcall := hide ((unhide hEE) cc hcc.ok (unhide hts) (by omega) w2 hc2)
        go_wp2_with fail
        refine (unhide hcall).mono ?_
        rintro e w3 ⟨cs, F, rfl, hpo, hc3, hk3⟩
        obtain ⟨U, hU⟩ : ∃ U, U = E cc := ⟨_, rfl⟩
        rw [← hU] at hrun2 hgo hpo hc3 ⊢
        obtain ⟨r, C⟩ := U
        obtain ⟨nm, ds, X, Y, ⟨k, tx, bl, ai, ni, ci, af, nf, cf, ln, co, rfl⟩, rfl⟩ := hpo.shape
        clear hcall hU hip2 hrun
        have HP := hide hpo
        clear hpo
        have HC3 := hide hc3
        have HK3 := hide hk3
        have hz3 := hk3.size
        cases r with
        | none =>
          have hrun3 := hide (show (none, C) = R from unhide hrun2)
          go_wp2_with fail
          go_ret2
          rw [unhide hs, ← unhide hrun3]
          exact ⟨_, rfl, rfl, (unhide HC3).below ((Below.refl _ _).alloc (Nat.le_refl _) _), (hk2.trans (unhide HK3)).trans (Kp.of ((Below.refl _ _).alloc (Nat.le_refl _) _))⟩
        | some d =>
          have hrun3 := hide (show brkF E right 0 g' (l ++ [d]) C = R from unhide hrun2)
          have hix3 : cc.ix < C.ix := hgo.2 rfl
          have hts3 := hgo.1.ts
          have hlt3 := hgo.1.ok.lt
          rw [hts3, unhide hts] at hlt3
          have hgr3 := (unhide hgr2).kp (unhide HK3) hB
          obtain ⟨it, zt, q1, q2, q3, q4, q5⟩ := infoFz
          have HQ := hide (And.intro q1 (And.intro q2 (And.intro q3 (And.intro q4 q5))))
          clear q1 q2 q3 q4 q5
          obtain ⟨xss, hr3, hol3, hx3⟩ := hgr3.row
          have hr4 := hide (fun o => World.ownsRow.alloc hr3 o)
          have hbyt := hide (show (l.length + 1) * 128 ≤ 140737488355328 ∧ l.length + 1 ≤ maxLen from ⟨by omega, by unfold maxLen; omega⟩)
          have hsz4 := hide (fun o => show w.heap.size ≤ (w3.alloc o).heap.size from by have := hz3; have := b2.size; have := hkr.size; simp; omega)
          have hone := hide ((unhide HP).own.one)
          have HG := hide (And.intro hgr3 (And.intro hol3 hx3))
          have hTS := hide hts3
          clear hrun2 hgo hts3 hgr3 hr3 hol3 hx3
          go_wp2_with (first
            | (at_builtin; refine dt.wp_snoc (by rfl) _ _ (by rfl) Try.underlying28 (unhide HQ).1 (unhide HQ).2.1 (unhide HQ).2.2.1 (unhide HQ).2.2.2.1 (unhide HQ).2.2.2.2 (by omega) w.heap.size l.length xss.flatten _ (by rfl) ((unhide hr4) _) [.string nm, .int .i64 k, .string tx, .bool bl, .slice ai ni ci, .slice af nf cf, .int .i64 ln, .int .i64 co, .int .i64 X, .int .i64 Y] (by rfl) (unhide hone) (w3.heap.size + 1) (by simp) (by rfl) (unhide hbyt).1 (unhide hbyt).2 ((unhide hsz4) _) ?_; intro sl' w7 hr7 b7 hold7 hat7; have H7 := hide (And.intro hr7 (And.intro b7 (And.intro hold7 hat7))); clear hr7 b7 hold7 hat7))
          go_roundg g'
          case rel =>
            obtain ⟨hr7, b7, hold7, hat7⟩ := unhide H7
            obtain ⟨hgr3, hol3, hx3⟩ := unhide HG
            have bA : Below w3.heap.size w3 (w3.alloc (.cells #[.string nm, .int .i64 k, .string tx, .bool bl, .slice ai ni ci, .slice af nf cf, .int .i64 ln, .int .i64 co, .int .i64 X, .int .i64 Y] 45)) := (Below.refl _ _).alloc (Nat.le_refl _) _
            have hgr4 := hgr3.keep bA.size (fun b hb _ => bA.block b hb)
            have hown := fun b (hb : (Value.slice al l.length cl).ownBlock = some b) => (let ⟨_, hr, _⟩ := (unhide hgr2).row; (hr.lt b hb).2)
            have hF3 : ∀ b ∈ F, w2.heap.size ≤ b ∧ b < w3.heap.size := (unhide HP).rng
            have hsz : w.heap.size ≤ w2.heap.size := hk2.size
            have hmore := hgr4.more (dt.OwL.agree (fun w w' e cs F => dt.Ow.agree e cs F) (fun b hb j => dt.cell_blk (bA.block b (hgr3.rng b hb).2) j) hol3) hx3 (ow_below (unhide HP).own bA (fun b hb => (hF3 b hb).2)) (unhide HP).nodup (fun b hb => ⟨by have := (hF3 b hb).1; omega, by have := (hF3 b hb).2; have := bA.size; omega, fun hm => by have := ((unhide hgr2).rng b hm).2; have := (hF3 b hb).1; omega, fun e => by have := hown b e; have := (hF3 b hb).1; omega⟩) (by rfl) hr7 (by have := (hr7.lt); have := b7.size; exact this) hold7 hat7
            have hBs : B < w3.heap.size := by omega
            have hCA := (unhide HC3).below bA
            refine ⟨l ++ [d], C, Gs ++ F, hrun3, ?_, hide hmore, ?_, hide ((unhide hTS).trans (unhide hts)), by omega, by rw [List.length_append]; simp; omega⟩
            · exact hCA.low b7 hB hp
            · exact ((hk2.trans (unhide HK3)).trans (Kp.of bA)).low b7
          case measure => exact Nat.lt_succ_self _
      · have hrun2 := hide (show (some l, cc.cls right) = R from by
          have e := unhide hrun
          rw [brkF, if_neg (fun e => by rcases e with e | e; omega; rw [hQ] at e; cases e)] at e
          exact e)
        have hcl2 := hide ((unhide hcl) w2 cc hc2)
        rw [hQ] at hcl2
        clear hrun hip2
        go_wp2_with fail
        refine (unhide hcl2).mono ?_
        rintro e w3 ⟨rfl, hc3, hk3⟩
        clear hcl2
        go_wp2_with fail
        go_ret2
        rw [unhide hs, ← unhide hrun2]
        exact ⟨_, rfl, ⟨Gs, (unhide hgr2).kp hk3 hB⟩, hc3, hk2.trans hk3⟩
end Go.Proofs.Ytfegalieiiaopab.cu
