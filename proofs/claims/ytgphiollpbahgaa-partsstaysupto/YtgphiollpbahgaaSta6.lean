import Derived.Test.YtgphiollpbahgaaSta4
import Derived.Test.YtgphiollpbahgaaSta5
import Derived.Test.YtgphiollpbahgaaSta2
import Derived.Laws.CopyOwn
import Derived.Test.YtgphiollpbahgaaRows
namespace Go.Proofs.Ytgphiollpbahgaa.dt
open Go.ChangeShapes Go.WideShapes Go.ChangeAt Go.RowKit
set_option linter.unusedVariables false
/-- one more, the rows known -/
theorem Grow.more {t : TypeId} {size : Nat} {w w' : World} {B : Nat} {l : List Dt} {sl sl' : Value} {G : List Nat} {d : Dt} {ds : List Value} {F : List Nat} (h : Grow t size w B l sl G) {xss : List (List Value)} (hol : OwL Ow w l xss G) (hx : ∀ xs ∈ xss, xs.length = size) (hd : Ow w d ds F) (hn : F.Nodup) (hF : ∀ b ∈ F, B ≤ b ∧ b < w.heap.size ∧ b ∉ G ∧ sl.ownBlock ≠ some b) (hl : ds.length = size)
    (hrow : w'.ownsRow B t size sl' (l.length + 1) (xss.flatten ++ ds)) (hs : w.heap.size ≤ w'.heap.size) (hold : ∀ b, b < w.heap.size → sl.ownBlock ≠ some b → w'.heap[b]? = w.heap[b]?) (hat : ∀ b, sl'.ownBlock = some b → sl.ownBlock = some b ∨ w.heap.size ≤ b) : Grow t size w' B (l ++ [d]) sl' (G ++ F) := by
  refine ⟨?_, ?_, ?_, xss ++ [ds], ?_, ?_, ?_⟩
  · rw [List.nodup_append]
    exact ⟨h.nodup, hn, fun x hx y hy e => (hF y hy).2.2.1 (e ▸ hx)⟩
  · intro b hb
    rcases List.mem_append.1 hb with hb | hb
    · exact ⟨(h.rng b hb).1, Nat.lt_of_lt_of_le (h.rng b hb).2 hs⟩
    · exact ⟨(hF b hb).1, Nat.lt_of_lt_of_le (hF b hb).2.1 hs⟩
  · intro b hb e
    have hlt' : b < w.heap.size := by
      rcases List.mem_append.1 hb with hb | hb
      · exact (h.rng b hb).2
      · exact (hF b hb).2.1
    rcases hat b e with hat | hat
    · rcases List.mem_append.1 hb with hb | hb
      · exact h.own b hb hat
      · exact (hF b hb).2.2.2 hat
    · omega
  · simpa using hrow
  · refine OwL.agree (fun w w' e cs F => Ow.agree e cs F) (fun b hb j => ?_) (OwL.snoc hd hol)
    rcases List.mem_append.1 hb with hb | hb
    · exact cell_blk (hold b (h.rng b hb).2 (h.own b hb)) j
    · exact cell_blk (hold b (hF b hb).2.1 (hF b hb).2.2.2) j
  · intro xs hxs
    rcases List.mem_append.1 hxs with hxs | hxs
    · exact hx xs hxs
    · obtain rfl : xs = ds := by simpa using hxs
      exact hl
end Go.Proofs.Ytgphiollpbahgaa.dt
namespace Go.Proofs.Ytgphiollpbahgaa.cu
open Go.ChangeShapes Go.WideShapes Go.ChangeAt Go.RowKit
open ints (hide unhide)
open dt (Dt Kp RowAt Ow Grow)
set_option linter.unusedVariables false
set_option linter.unusedSimpArgs false
theorem CurAt.low {w w' : World} {B p lo : Nat} {c : Cu} (h : CurAt w B p c) (hb : Below lo w w') (h1 : B < lo) (h2 : p < lo) : CurAt w' B p c := by
  obtain ⟨cap, h3, h4, h5, h6⟩ := h.box
  exact ⟨h.ok, h.len, cap, (hb.block B h1).trans h3, h4, Nat.lt_of_lt_of_le h5 hb.size, fun i t ht j u hu => (dt.cell_blk (hb.block p h2) _).trans (h6 i t ht j u hu)⟩
theorem _root_.Go.Proofs.Ytgphiollpbahgaa.dt.Kp.low {B : Nat} {w w1 w2 : World} (h : Kp B w w1) (hb : Below w.heap.size w1 w2) : Kp B w w2 :=
  ⟨hb.os.trans h.os, hb.tape.trans h.tape, hb.output.trans h.output, Nat.le_trans h.size hb.size, fun k hk hB => (hb.block k hk).trans (h.block k hk hB)⟩
theorem infoLz : ∃ i z, Try.prog.info? 30 = some i ∧ i.zero = some z ∧ i.size = 7 ∧ i.bytes = 96 ∧ z.cells.size = 7 := by
  have hin : (Try.prog.info? 30).map (fun i => (i.bytes, i.size, i.zero.map (·.cells.size))) = some (96, 7, some 7) := by kernel_rfl
  cases hq : Try.prog.info? 30 with
  | none => simp [hq] at hin
  | some i =>
    simp [hq] at hin
    obtain ⟨h1, h2, z, hz, h3⟩ := hin
    exact ⟨i, z, rfl, hz, h2, h1, h3⟩
def BrkPL (r : Option (List Dt)) (lo : Nat) (w' : World) (sl : Value) : Prop := match r with | none => sl = .slice none 0 0 | some l => ∃ G, Grow 30 7 w' lo l sl G
set_option maxRecDepth 4000 in
set_option maxHeartbeats 4000000 in
theorem brkL_ok (E : Cu → Option Dt × Cu) (ct : Bool) (c : Cu) (left right : ByteArray) (hc0 : c.Ok) (hlen : c.ts.length ≤ 1099511627777) (hG : Goes E) (hE : ∀ cc : Cu, cc.Ok → cc.ts = c.ts → c.ix < cc.ix → LitAt E ct cc) (B p : Nat) (w : World) (h : CurAt w B p c) :
    Calls Try.prog 39 #[ptr B, .string left, .string right, .int .i64 0, .bool ct, .func (.func 12) #[ptr B] #[]] w fun e w' => ∃ sl, e = .returned (.tuple #[sl, .bool (brk E left right 0 c).1.isSome]) ∧ BrkPL (brk E left right 0 c).1 w.heap.size w' sl ∧ CurAt w' B p (brk E left right 0 c).2 ∧ Kp B w w' := by
  have en : ∀ args w, (callFunc 12 args).run Try.prog w = .ok (.enter 12 args) w := fun _ _ => rfl
  have ho := hide (open_ok B p c left w h)
  have hB := h.lt
  have hp := h.plt
  cases hO : c.opB left
  · have hs := hide (show brk E left right 0 c = (none, c.opn left) from by unfold brk; rw [hO]; rfl)
    rw [hO] at ho
    clear h hE
    unfold ptr at ho ⊢
    go_enter Try.func39, Try.ntmps39
    go_wp2_with fail
    refine (unhide ho).mono ?_
    rintro e w1 ⟨rfl, hc1, hk1⟩
    clear ho
    go_wp2_with fail
    go_ret2
    rw [unhide hs]
    exact ⟨_, rfl, rfl, hc1, hk1⟩
  · have hst := opn_stp hc0 left
    have hoi := opn_ix hO
    obtain ⟨R, hR⟩ : ∃ R, R = brkF E right 0 c.ts.length [] (c.opn left) := ⟨_, rfl⟩
    have hs := hide (show brk E left right 0 c = R from by unfold brk; rw [hO, hR]; rfl)
    rw [hO] at ho
    have HR := hide hR.symm
    clear h hR hO
    have hcl := hide (fun W (cc : Cu) (hc : CurAt W B p cc) => close_ok B p cc right W hc)
    have hip := hide (fun W (cc : Cu) (hc : CurAt W B p cc) => isPunct_ok B p cc right W hc)
    have hEE := hide (fun (cc : Cu) (h1 : cc.Ok) (h2 : cc.ts = c.ts) (h3 : c.ix < cc.ix) => hE cc h1 h2 h3 B p)
    clear hE
    unfold ptr at ho hcl hip hEE ⊢
    go_enter Try.func39, Try.ntmps39
    go_wp2_with fail
    refine (unhide ho).mono ?_
    rintro e w1 ⟨rfl, hc1, hk1⟩
    clear ho
    have hz1 := hk1.size
    go_wp2_with fail
    go_loopg [14] c.ts.length (fun g sl wr => ∃ (l : List Dt) (cc : Cu) (Gs : List Nat), Hid (brkF E right 0 g l cc = R) ∧ CurAt wr B p cc ∧ Hid (Grow 30 7 wr w.heap.size l sl Gs) ∧ Kp B w wr ∧ Hid (cc.ts = c.ts) ∧ c.ts.length ≤ g + cc.ix ∧ l.length + 1 + c.ix ≤ cc.ix)
    case atStart => exact ⟨[], c.opn left, [], HR, hc1, hide Grow.nil, hk1, hide hst.ts, Nat.le_add_right _ _, by rw [hoi]; simp; omega⟩
    case round =>
      obtain ⟨l, cc, Gs, hrun, hcc, hgr, hkr, hts, hfu, hll⟩ := hrel
      have hixl := hcc.ok.lt
      rw [unhide hts] at hixl
      obtain ⟨al, cl, hsl⟩ := (unhide hgr).form
      subst hsl
      have hlz : ¬ ((l.length : Int) < 0) := by omega
      obtain ⟨g', rfl⟩ : ∃ g', gk = g' + 1 := ⟨gk - 1, by omega⟩
      have hip2 := hide ((unhide hip) wr cc hcc)
      go_wp2_with fail
      refine (unhide hip2).mono ?_
      rintro e w2 ⟨rfl, b2⟩
      have hc2 := hcc.below b2
      have hgr2 := hide ((unhide hgr).keep b2.size (fun b hb _ => b2.block b hb))
      have hk2 := hkr.trans (Kp.of b2)
      cases hQ : cc.isP right
      · have hrun2 := hide (show (match (E cc).1 with | none => (none, (E cc).2) | some d => brkF E right 0 g' (l ++ [d]) (E cc).2) = R from by
          have e := unhide hrun
          rw [brkF, if_pos (.inr hQ)] at e
          exact e)
        have hgo := hG cc hcc.ok
        have hcall := hide ((unhide hEE) cc hcc.ok (unhide hts) (by omega) w2 hc2)
        go_wp2_with fail
        refine (unhide hcall).mono ?_
        rintro e w3 ⟨cs, F, rfl, hpo, hc3, hk3⟩
        obtain ⟨U, hU⟩ : ∃ U, U = E cc := ⟨_, rfl⟩
        rw [← hU] at hrun2 hgo hpo hc3 ⊢
        obtain ⟨r, C⟩ := U
        obtain ⟨k, tx, bl, ai, ni, ci, af, nf, cf, ln, co, rfl⟩ := hpo.shape
        clear hcall hU hip2 hrun
        have HP := hide hpo
        clear hpo
        have HC3 := hide hc3
        have HK3 := hide hk3
        have hz3 := hk3.size
        cases r with
        | none =>
          have hrun3 := hide (show (none, C) = R from unhide hrun2)
          go_wp2_with fail
          go_ret2
          rw [unhide hs, ← unhide hrun3]
          exact ⟨_, rfl, rfl, (unhide HC3).below ((Below.refl _ _).alloc (Nat.le_refl _) _), (hk2.trans (unhide HK3)).trans (Kp.of ((Below.refl _ _).alloc (Nat.le_refl _) _))⟩
        | some d =>
          have hrun3 := hide (show brkF E right 0 g' (l ++ [d]) C = R from unhide hrun2)
          have hix3 : cc.ix < C.ix := hgo.2 rfl
          have hts3 := hgo.1.ts
          have hlt3 := hgo.1.ok.lt
          rw [hts3, unhide hts] at hlt3
          have hgr3 := (unhide hgr2).kp (unhide HK3) hB
          obtain ⟨it, zt, q1, q2, q3, q4, q5⟩ := infoLz
          have HQ := hide (And.intro q1 (And.intro q2 (And.intro q3 (And.intro q4 q5))))
          clear q1 q2 q3 q4 q5
          obtain ⟨xss, hr3, hol3, hx3⟩ := hgr3.row
          have hr4 := hide (fun o => World.ownsRow.alloc hr3 o)
          have hbyt := hide (show (l.length + 1) * 96 ≤ 140737488355328 ∧ l.length + 1 ≤ maxLen from ⟨by omega, by unfold maxLen; omega⟩)
          have hsz4 := hide (fun o => show w.heap.size ≤ (w3.alloc o).heap.size from by have := hz3; have := b2.size; have := hkr.size; simp; omega)
          have hone := hide ((unhide HP).own.one)
          have HG := hide (And.intro hgr3 (And.intro hol3 hx3))
          have hTS := hide hts3
          clear hrun2 hgo hts3 hgr3 hr3 hol3 hx3
          go_wp2_with (first
            | (at_builtin; refine dt.wp_snoc (by rfl) _ _ (by rfl) Try.underlying25 (unhide HQ).1 (unhide HQ).2.1 (unhide HQ).2.2.1 (unhide HQ).2.2.2.1 (unhide HQ).2.2.2.2 (by omega) w.heap.size l.length xss.flatten _ (by rfl) ((unhide hr4) _) [.int .i64 k, .string tx, .bool bl, .slice ai ni ci, .slice af nf cf, .int .i64 ln, .int .i64 co] (by rfl) (unhide hone) (w3.heap.size + 1) (by simp) (by rfl) (unhide hbyt).1 (unhide hbyt).2 ((unhide hsz4) _) ?_; intro sl' w7 hr7 b7 hold7 hat7; have H7 := hide (And.intro hr7 (And.intro b7 (And.intro hold7 hat7))); clear hr7 b7 hold7 hat7))
          go_roundg g'
          case rel =>
            obtain ⟨hr7, b7, hold7, hat7⟩ := unhide H7
            obtain ⟨hgr3, hol3, hx3⟩ := unhide HG
            have bA : Below w3.heap.size w3 (w3.alloc (.cells #[.int .i64 k, .string tx, .bool bl, .slice ai ni ci, .slice af nf cf, .int .i64 ln, .int .i64 co] 30)) := (Below.refl _ _).alloc (Nat.le_refl _) _
            have hgr4 := hgr3.keep bA.size (fun b hb _ => bA.block b hb)
            have hown := fun b (hb : (Value.slice al l.length cl).ownBlock = some b) => (let ⟨_, hr, _⟩ := (unhide hgr2).row; (hr.lt b hb).2)
            have hF3 : ∀ b ∈ F, w2.heap.size ≤ b ∧ b < w3.heap.size := (unhide HP).rng
            have hsz : w.heap.size ≤ w2.heap.size := hk2.size
            have hmore := hgr4.more (dt.OwL.agree (fun w w' e cs F => dt.Ow.agree e cs F) (fun b hb j => dt.cell_blk (bA.block b (hgr3.rng b hb).2) j) hol3) hx3 (ow_below (unhide HP).own bA (fun b hb => (hF3 b hb).2)) (unhide HP).nodup (fun b hb => ⟨by have := (hF3 b hb).1; omega, by have := (hF3 b hb).2; have := bA.size; omega, fun hm => by have := ((unhide hgr2).rng b hm).2; have := (hF3 b hb).1; omega, fun e => by have := hown b e; have := (hF3 b hb).1; omega⟩) (by rfl) hr7 (by have := (hr7.lt); have := b7.size; exact this) hold7 hat7
            have hBs : B < w3.heap.size := by omega
            have hCA := (unhide HC3).below bA
            refine ⟨l ++ [d], C, Gs ++ F, hrun3, ?_, hide hmore, ?_, hide ((unhide hTS).trans (unhide hts)), by omega, by rw [List.length_append]; simp; omega⟩
            · exact hCA.low b7 hB hp
            · exact ((hk2.trans (unhide HK3)).trans (Kp.of bA)).low b7
          case measure => exact Nat.lt_succ_self _
      · have hrun2 := hide (show (some l, cc.cls right) = R from by
          have e := unhide hrun
          rw [brkF, if_neg (fun e => by rcases e with e | e; omega; rw [hQ] at e; cases e)] at e
          exact e)
        have hcl2 := hide ((unhide hcl) w2 cc hc2)
        rw [hQ] at hcl2
        clear hrun hip2
        go_wp2_with fail
        refine (unhide hcl2).mono ?_
        rintro e w3 ⟨rfl, hc3, hk3⟩
        clear hcl2
        go_wp2_with fail
        go_ret2
        rw [unhide hs, ← unhide hrun2]
        exact ⟨_, rfl, ⟨Gs, (unhide hgr2).kp hk3 hB⟩, hc3, hk2.trans hk3⟩
end Go.Proofs.Ytgphiollpbahgaa.cu
namespace Go.Proofs.Ytgphiollpbahgaa.cu
open Go.ChangeShapes Go.WideShapes Go.ChangeAt Go.RowKit
open ints (hide unhide)
open dt (Dt Kp RowAt Ow Grow)
set_option linter.unusedVariables false
set_option linter.unusedSimpArgs false
theorem infoFz : ∃ i z, Try.prog.info? 52 = some i ∧ i.zero = some z ∧ i.size = 10 ∧ i.bytes = 128 ∧ z.cells.size = 10 := by
  have hin : (Try.prog.info? 52).map (fun i => (i.bytes, i.size, i.zero.map (·.cells.size))) = some (128, 10, some 10) := by kernel_rfl
  cases hq : Try.prog.info? 52 with
  | none => simp [hq] at hin
  | some i =>
    simp [hq] at hin
    obtain ⟨h1, h2, z, hz, h3⟩ := hin
    exact ⟨i, z, rfl, hz, h2, h1, h3⟩
def BrkPF (r : Option (List Dt)) (lo : Nat) (w' : World) (sl : Value) : Prop := match r with | none => sl = .slice none 0 0 | some l => ∃ G, Grow 52 10 w' lo l sl G
set_option maxRecDepth 4000 in
set_option maxHeartbeats 4000000 in
theorem brkF_ok' (E : Cu → Option Dt × Cu) (ct : Bool) (c : Cu) (left right : ByteArray) (hc0 : c.Ok) (hlen : c.ts.length ≤ 1099511627777) (hG : Goes E) (hE : ∀ cc : Cu, cc.Ok → cc.ts = c.ts → c.ix < cc.ix → FldAt 41 E ct cc) (B p : Nat) (w : World) (h : CurAt w B p c) :
    Calls Try.prog 40 #[ptr B, .string left, .string right, .int .i64 0, .bool ct, .func (.func 41) #[ptr B] #[]] w fun e w' => ∃ sl, e = .returned (.tuple #[sl, .bool (brk E left right 0 c).1.isSome]) ∧ BrkPF (brk E left right 0 c).1 w.heap.size w' sl ∧ CurAt w' B p (brk E left right 0 c).2 ∧ Kp B w w' := by
  have en : ∀ args w, (callFunc 41 args).run Try.prog w = .ok (.enter 41 args) w := fun _ _ => rfl
  have ho := hide (open_ok B p c left w h)
  have hB := h.lt
  have hp := h.plt
  cases hO : c.opB left
  · have hs := hide (show brk E left right 0 c = (none, c.opn left) from by unfold brk; rw [hO]; rfl)
    rw [hO] at ho
    clear h hE
    unfold ptr at ho ⊢
    go_enter Try.func40, Try.ntmps40
    go_wp2_with fail
    refine (unhide ho).mono ?_
    rintro e w1 ⟨rfl, hc1, hk1⟩
    clear ho
    go_wp2_with fail
    go_ret2
    rw [unhide hs]
    exact ⟨_, rfl, rfl, hc1, hk1⟩
  · have hst := opn_stp hc0 left
    have hoi := opn_ix hO
    obtain ⟨R, hR⟩ : ∃ R, R = brkF E right 0 c.ts.length [] (c.opn left) := ⟨_, rfl⟩
    have hs := hide (show brk E left right 0 c = R from by unfold brk; rw [hO, hR]; rfl)
    rw [hO] at ho
    have HR := hide hR.symm
    clear h hR hO
    have hcl := hide (fun W (cc : Cu) (hc : CurAt W B p cc) => close_ok B p cc right W hc)
    have hip := hide (fun W (cc : Cu) (hc : CurAt W B p cc) => isPunct_ok B p cc right W hc)
    have hEE := hide (fun (cc : Cu) (h1 : cc.Ok) (h2 : cc.ts = c.ts) (h3 : c.ix < cc.ix) => hE cc h1 h2 h3 B p)
    clear hE
    unfold ptr at ho hcl hip hEE ⊢
    go_enter Try.func40, Try.ntmps40
    go_wp2_with fail
    refine (unhide ho).mono ?_
    rintro e w1 ⟨rfl, hc1, hk1⟩
    clear ho
    have hz1 := hk1.size
    go_wp2_with fail
    go_loopg [14] c.ts.length (fun g sl wr => ∃ (l : List Dt) (cc : Cu) (Gs : List Nat), Hid (brkF E right 0 g l cc = R) ∧ CurAt wr B p cc ∧ Hid (Grow 52 10 wr w.heap.size l sl Gs) ∧ Kp B w wr ∧ Hid (cc.ts = c.ts) ∧ c.ts.length ≤ g + cc.ix ∧ l.length + 1 + c.ix ≤ cc.ix)
    case atStart => exact ⟨[], c.opn left, [], HR, hc1, hide Grow.nil, hk1, hide hst.ts, Nat.le_add_right _ _, by rw [hoi]; simp; omega⟩
    case round =>
      obtain ⟨l, cc, Gs, hrun, hcc, hgr, hkr, hts, hfu, hll⟩ := hrel
      have hixl := hcc.ok.lt
      rw [unhide hts] at hixl
      obtain ⟨al, cl, hsl⟩ := (unhide hgr).form
      subst hsl
      have hlz : ¬ ((l.length : Int) < 0) := by omega
      obtain ⟨g', rfl⟩ : ∃ g', gk = g' + 1 := ⟨gk - 1, by omega⟩
      have hip2 := hide ((unhide hip) wr cc hcc)
      go_wp2_with fail
      refine (unhide hip2).mono ?_
      rintro e w2 ⟨rfl, b2⟩
      have hc2 := hcc.below b2
      have hgr2 := hide ((unhide hgr).keep b2.size (fun b hb _ => b2.block b hb))
      have hk2 := hkr.trans (Kp.of b2)
      cases hQ : cc.isP right
      · have hrun2 := hide (show (match (E cc).1 with | none => (none, (E cc).2) | some d => brkF E right 0 g' (l ++ [d]) (E cc).2) = R from by
          have e := unhide hrun
          rw [brkF, if_pos (.inr hQ)] at e
          exact e)
        have hgo := hG cc hcc.ok
        have hcall := hide ((unhide hEE) cc hcc.ok (unhide hts) (by omega) w2 hc2)
        go_wp2_with fail
        refine (unhide hcall).mono ?_
        rintro e w3 ⟨cs, F, rfl, hpo, hc3, hk3⟩
        obtain ⟨U, hU⟩ : ∃ U, U = E cc := ⟨_, rfl⟩
        rw [← hU] at hrun2 hgo hpo hc3 ⊢
        obtain ⟨r, C⟩ := U
        obtain ⟨nm, ds, X, Y, ⟨k, tx, bl, ai, ni, ci, af, nf, cf, ln, co, rfl⟩, rfl⟩ := hpo.shape
        clear hcall hU hip2 hrun
        have HP := hide hpo
        clear hpo
        have HC3 := hide hc3
        have HK3 := hide hk3
        have hz3 := hk3.size
        cases r with
        | none =>
          have hrun3 := hide (show (none, C) = R from unhide hrun2)
          go_wp2_with fail
          go_ret2
          rw [unhide hs, ← unhide hrun3]
          exact ⟨_, rfl, rfl, (unhide HC3).below ((Below.refl _ _).alloc (Nat.le_refl _) _), (hk2.trans (unhide HK3)).trans (Kp.of ((Below.refl _ _).alloc (Nat.le_refl _) _))⟩
        | some d =>
          have hrun3 := hide (show brkF E right 0 g' (l ++ [d]) C = R from unhide hrun2)
          have hix3 : cc.ix < C.ix := hgo.2 rfl
          have hts3 := hgo.1.ts
          have hlt3 := hgo.1.ok.lt
          rw [hts3, unhide hts] at hlt3
          have hgr3 := (unhide hgr2).kp (unhide HK3) hB
          obtain ⟨it, zt, q1, q2, q3, q4, q5⟩ := infoFz
          have HQ := hide (And.intro q1 (And.intro q2 (And.intro q3 (And.intro q4 q5))))
          clear q1 q2 q3 q4 q5
          obtain ⟨xss, hr3, hol3, hx3⟩ := hgr3.row
          have hr4 := hide (fun o => World.ownsRow.alloc hr3 o)
          have hbyt := hide (show (l.length + 1) * 128 ≤ 140737488355328 ∧ l.length + 1 ≤ maxLen from ⟨by omega, by unfold maxLen; omega⟩)
          have hsz4 := hide (fun o => show w.heap.size ≤ (w3.alloc o).heap.size from by have := hz3; have := b2.size; have := hkr.size; simp; omega)
          have hone := hide ((unhide HP).own.one)
          have HG := hide (And.intro hgr3 (And.intro hol3 hx3))
          have hTS := hide hts3
          clear hrun2 hgo hts3 hgr3 hr3 hol3 hx3
          go_wp2_with (first
            | (at_builtin; refine dt.wp_snoc (by rfl) _ _ (by rfl) Try.underlying26 (unhide HQ).1 (unhide HQ).2.1 (unhide HQ).2.2.1 (unhide HQ).2.2.2.1 (unhide HQ).2.2.2.2 (by omega) w.heap.size l.length xss.flatten _ (by rfl) ((unhide hr4) _) [.string nm, .int .i64 k, .string tx, .bool bl, .slice ai ni ci, .slice af nf cf, .int .i64 ln, .int .i64 co, .int .i64 X, .int .i64 Y] (by rfl) (unhide hone) (w3.heap.size + 1) (by simp) (by rfl) (unhide hbyt).1 (unhide hbyt).2 ((unhide hsz4) _) ?_; intro sl' w7 hr7 b7 hold7 hat7; have H7 := hide (And.intro hr7 (And.intro b7 (And.intro hold7 hat7))); clear hr7 b7 hold7 hat7))
          go_roundg g'
          case rel =>
            obtain ⟨hr7, b7, hold7, hat7⟩ := unhide H7
            obtain ⟨hgr3, hol3, hx3⟩ := unhide HG
            have bA : Below w3.heap.size w3 (w3.alloc (.cells #[.string nm, .int .i64 k, .string tx, .bool bl, .slice ai ni ci, .slice af nf cf, .int .i64 ln, .int .i64 co, .int .i64 X, .int .i64 Y] 52)) := (Below.refl _ _).alloc (Nat.le_refl _) _
            have hgr4 := hgr3.keep bA.size (fun b hb _ => bA.block b hb)
            have hown := fun b (hb : (Value.slice al l.length cl).ownBlock = some b) => (let ⟨_, hr, _⟩ := (unhide hgr2).row; (hr.lt b hb).2)
            have hF3 : ∀ b ∈ F, w2.heap.size ≤ b ∧ b < w3.heap.size := (unhide HP).rng
            have hsz : w.heap.size ≤ w2.heap.size := hk2.size
            have hmore := hgr4.more (dt.OwL.agree (fun w w' e cs F => dt.Ow.agree e cs F) (fun b hb j => dt.cell_blk (bA.block b (hgr3.rng b hb).2) j) hol3) hx3 (ow_below (unhide HP).own bA (fun b hb => (hF3 b hb).2)) (unhide HP).nodup (fun b hb => ⟨by have := (hF3 b hb).1; omega, by have := (hF3 b hb).2; have := bA.size; omega, fun hm => by have := ((unhide hgr2).rng b hm).2; have := (hF3 b hb).1; omega, fun e => by have := hown b e; have := (hF3 b hb).1; omega⟩) (by rfl) hr7 (by have := (hr7.lt); have := b7.size; exact this) hold7 hat7
            have hBs : B < w3.heap.size := by omega
            have hCA := (unhide HC3).below bA
            refine ⟨l ++ [d], C, Gs ++ F, hrun3, ?_, hide hmore, ?_, hide ((unhide hTS).trans (unhide hts)), by omega, by rw [List.length_append]; simp; omega⟩
            · exact hCA.low b7 hB hp
            · exact ((hk2.trans (unhide HK3)).trans (Kp.of bA)).low b7
          case measure => exact Nat.lt_succ_self _
      · have hrun2 := hide (show (some l, cc.cls right) = R from by
          have e := unhide hrun
          rw [brkF, if_neg (fun e => by rcases e with e | e; omega; rw [hQ] at e; cases e)] at e
          exact e)
        have hcl2 := hide ((unhide hcl) w2 cc hc2)
        rw [hQ] at hcl2
        clear hrun hip2
        go_wp2_with fail
        refine (unhide hcl2).mono ?_
        rintro e w3 ⟨rfl, hc3, hk3⟩
        clear hcl2
        go_wp2_with fail
        go_ret2
        rw [unhide hs, ← unhide hrun2]
        exact ⟨_, rfl, ⟨Gs, (unhide hgr2).kp hk3 hB⟩, hc3, hk2.trans hk3⟩
end Go.Proofs.Ytgphiollpbahgaa.cu
namespace Go.Proofs.Ytgphiollpbahgaa.cu
open Go.ChangeShapes Go.WideShapes Go.ChangeAt Go.RowKit
open ints (hide unhide)
open dt (Dt Kp RowAt Ow Grow)
set_option linter.unusedVariables false
set_option linter.unusedSimpArgs false
def LitFn (f : Nat) (L : Cu → Option Dt × Cu) (ct : Bool) (c : Cu) : Prop := ∀ (B p : Nat) (w : World), CurAt w B p c → Calls Try.prog f #[ptr B, .bool ct] w fun e w' => ∃ cs F, e = .returned (.tuple #[.agg cs.toArray, .bool (L c).1.isSome]) ∧ LitPost ((L c).1.getD zeroD) w w' cs F ∧ CurAt w' B p (L c).2 ∧ Kp B w w'
theorem list_ow {t : TypeId} {w : World} {lo : Nat} {l : List Dt} {sl : Value} {G : List Nat} (h : Grow t 7 w lo l sl G) (ln co : Int) : ∃ a n c F, sl = .slice a n c ∧ Ow w (litD 8 em false (Dt.of l) .nil ln co) [.int .i64 8, .string ⟨#[]⟩, .bool false, .slice a n c, .slice none 0 0, .int .i64 ln, .int .i64 co] F ∧ F.Nodup ∧ ∀ b ∈ F, lo ≤ b ∧ b < w.heap.size := by
  obtain ⟨a, n, c, F, rfl, h1, h2, h3, h4, h5, h6, h7⟩ := h.shut
  refine ⟨a, n, c, F, rfl, ?_, h4, h5⟩
  unfold litD
  unfold Ow
  refine ⟨_, rfl, rfl, ?_⟩
  unfold Ow
  refine ⟨_, rfl, rfl, ?_⟩
  unfold Ow
  refine ⟨_, rfl, rfl, ?_⟩
  unfold Ow
  refine ⟨a, n, c, _, F, [], rfl, h1, h2, h3, h7, ?_, by simp⟩
  unfold Ow
  refine ⟨none, 0, 0, _, [], [], rfl, Nat.le_refl _, Nat.zero_le _, fun _ => rfl, .inl ⟨rfl, rfl, rfl, rfl⟩, pos_ow _ _ _, rfl⟩
set_option maxRecDepth 4000 in
set_option maxHeartbeats 2000000 in
theorem list_ok (L : Cu → Option Dt × Cu) (ct : Bool) (c : Cu) (hc0 : c.Ok) (hlen : c.ts.length ≤ 1099511627777) (hG : Goes L) (hE : ∀ cc : Cu, cc.Ok → cc.ts = c.ts → c.ix < cc.ix → LitAt L ct cc) : LitFn 25 (listS L) ct c := by
  intro B p w h
  have ht := hide (fun W (bb : Below w.heap.size w W) => token_ok B p c W (h.below bb))
  have hb := hide (fun W (bb : Below w.heap.size w W) => brkL_ok L ct c bLb bRb hc0 hlen hG hE B p W (h.below bb))
  have hlt := h.lt
  have hplt := h.plt
  have hne : B ≠ w.heap.size := by omega
  have hnp : p ≠ w.heap.size := by omega
  have bA := hide (fun o => show Below w.heap.size w (w.alloc o) from (Below.refl _ _).alloc (Nat.le_refl _) _)
  have hZ := hide (fun o W (hk : Kp B (w.alloc o) W) => show W.heap[w.heap.size]? = some o from (hk.block w.heap.size (by simp) (by omega)).trans (heap_alloc_new w o))
  have hs0 := hide (show (brk L bLb bRb 0 c).1 = none → listS L c = (none, (brk L bLb bRb 0 c).2) from fun e => by unfold listS; rw [e])
  have hs1 := hide (show ∀ l, (brk L bLb bRb 0 c).1 = some l → listS L c = (some (litD 8 em false (Dt.of l) .nil c.tok.ln c.tok.co), (brk L bLb bRb 0 c).2) from fun l e => by unfold listS; rw [e])
  have hf2 := fld_pos c.tok
  obtain ⟨t, et⟩ : ∃ t, t = c.tok := ⟨_, rfl⟩
  rw [← et] at ht hs1 hf2
  obtain ⟨U, hU⟩ : ∃ U, U = brk L bLb bRb 0 c := ⟨_, rfl⟩
  rw [← hU] at hb hs0 hs1
  clear h hU et hE
  obtain ⟨r, C⟩ := U
  unfold Tk.cells at ht
  unfold ptr at ht hb ⊢
  go_enter Try.func25, Try.ntmps25
  go_wp2_with fail
  refine ((unhide ht) _ ((unhide bA) _)).mono ?_
  rintro e w1 ⟨rfl, b1⟩
  have hz1 : w.heap.size < w1.heap.size := by have := b1.size; simp at this; omega
  have bw1 := ((unhide bA) _).trans (b1.mono ((unhide bA) _).size)
  go_wp2_with fail
  refine ((unhide hb) _ (bw1.alloc bw1.size _)).mono ?_
  rintro e w2 ⟨sl, rfl, hbp, hc2, hk2⟩
  have hD2 := (hk2.block w1.heap.size (by simp) (by omega)).trans (heap_alloc_new w1 _)
  have hk12 := (Kp.of b1).trans ((Kp.of ((Below.refl _ _).alloc (Nat.le_refl _) _)).trans hk2)
  have hR2 := (unhide hZ) _ w2 hk12
  have hz2 : w1.heap.size < w2.heap.size := by have := hk2.size; simp at this; omega
  have d0 : w2.cell? ⟨w1.heap.size, 0, none⟩ = some (.int .i64 t.ln) := (dt.cell_cells hD2 0).trans rfl
  have d1 : w2.cell? ⟨w1.heap.size, 1, none⟩ = some (.int .i64 t.co) := (dt.cell_cells hD2 1).trans rfl
  have HT := hide (dt.there_cells hR2 (o := 0) (n := 7) (by decide))
  have HK := hide ((Kp.of ((unhide bA) _)).trans hk12)
  have HC := hide hc2
  have HB := hide hbp
  have hloZ := hide (show w.heap.size < (w1.alloc (.cells #[.int .i64 t.ln, .int .i64 t.co] 28)).heap.size from by simp; omega)
  clear ht hb hk2 hk12 hc2 hZ bA hR2 hD2 hbp bw1
  cases r with
  | none =>
    have hs2 := hide ((unhide hs0) rfl)
    obtain rfl : sl = .slice none 0 0 := unhide HB
    clear hs0 hs1
    go_wp2_with (first
      | refine wpList_store_mid (by rfl) 30 _ _ (by rfl) w.heap.size 0 #[.int .i64 0, .string ⟨#[]⟩, .bool false, .slice none 0 0, .slice none 0 0, .int .i64 0, .int .i64 0] (by rfl) (by rfl) (unhide HT) infoLt (dt.one_cells (cs := [.int .i64 0, .string ⟨#[]⟩, .bool false, .slice none 0 0, .slice none 0 0, .int .i64 0, .int .i64 0]) (by rfl)) ?_)
    refine bodyPost_ret (rgn.result_row_tmp rfl _ _ w.heap.size 0 [.int .i64 0, .string ⟨#[]⟩, .bool false, .slice none 0 0, .slice none 0 0, .int .i64 0, .int .i64 0] _ rfl (World.rangeAt_setCells_same _ _ _ _ (unhide HT)) Try.underlying30 rfl infoLt) rfl ?_
    rw [unhide hs2]
    exact ⟨_, [], rfl, ⟨leaf_shape 0 em false 0 0, leaf_ow _ 0 em false 0 0, List.nodup_nil, by simp⟩, (unhide HC).out hne hnp _ _, (unhide HK).out (Nat.le_refl _) _ _⟩
  | some l =>
    have hs2 := hide ((unhide hs1) l rfl)
    obtain ⟨Gs, hgr⟩ := unhide HB
    obtain ⟨a, n, c', F, rfl, how, hnd, hrg⟩ := list_ow hgr t.ln t.co
    have HO := hide (And.intro how (And.intro hnd hrg))
    clear hs0 hs1 hgr how hnd hrg HB
    go_wp2_with (first
      | refine wpList_store_mid (by rfl) 30 _ _ (by rfl) w.heap.size 0 #[.int .i64 8, .string ⟨#[]⟩, .bool false, .slice a n c', .slice none 0 0, .int .i64 t.ln, .int .i64 t.co] (by rfl) (by rfl) (unhide HT) infoLt (dt.one_cells (cs := [.int .i64 8, .string ⟨#[]⟩, .bool false, .slice a n c', .slice none 0 0, .int .i64 t.ln, .int .i64 t.co]) (by rfl)) ?_)
    refine bodyPost_ret (rgn.result_row_tmp rfl _ _ w.heap.size 0 [.int .i64 8, .string ⟨#[]⟩, .bool false, .slice a n c', .slice none 0 0, .int .i64 t.ln, .int .i64 t.co] _ rfl (World.rangeAt_setCells_same _ _ _ _ (unhide HT)) Try.underlying30 rfl infoLt) rfl ?_
    rw [unhide hs2]
    obtain ⟨how, hnd, hrg⟩ := unhide HO
    exact ⟨_, F, rfl, ⟨⟨_, _, _, _, _, _, _, _, _, _, _, rfl⟩, ow_out how (fun hm => by have := (hrg _ hm).1; have := unhide hloZ; omega) _ _, hnd, fun b hb => ⟨by have := (hrg b hb).1; have := unhide hloZ; omega, by rw [dt.size_setCells]; exact (hrg b hb).2⟩⟩, (unhide HC).out hne hnp _ _, (unhide HK).out (Nat.le_refl _) _ _⟩
theorem obj_ow {t : TypeId} {w : World} {lo : Nat} {l : List Dt} {sl : Value} {G : List Nat} (h : Grow t 10 w lo l sl G) (ln co : Int) : ∃ a n c F, sl = .slice a n c ∧ Ow w (litD 9 em false .nil (Dt.of l) ln co) [.int .i64 9, .string ⟨#[]⟩, .bool false, .slice none 0 0, .slice a n c, .int .i64 ln, .int .i64 co] F ∧ F.Nodup ∧ ∀ b ∈ F, lo ≤ b ∧ b < w.heap.size := by
  obtain ⟨a, n, c, F, rfl, h1, h2, h3, h4, h5, h6, h7⟩ := h.shut
  refine ⟨a, n, c, F, rfl, ?_, h4, h5⟩
  unfold litD
  unfold Ow
  refine ⟨_, rfl, rfl, ?_⟩
  unfold Ow
  refine ⟨_, rfl, rfl, ?_⟩
  unfold Ow
  refine ⟨_, rfl, rfl, ?_⟩
  unfold Ow
  refine ⟨none, 0, 0, _, [], F, rfl, Nat.le_refl _, Nat.zero_le _, fun _ => rfl, .inl ⟨rfl, rfl, rfl, rfl⟩, ?_, rfl⟩
  unfold Ow
  exact ⟨a, n, c, _, F, [], rfl, h1, h2, h3, h7, pos_ow _ _ _, by simp⟩
set_option maxRecDepth 4000 in
set_option maxHeartbeats 2000000 in
theorem obj_ok (L : Cu → Option Dt × Cu) (ct : Bool) (c : Cu) (hc0 : c.Ok) (hlen : c.ts.length ≤ 1099511627777) (hG : Goes L) (hE : ∀ cc : Cu, cc.Ok → cc.ts = c.ts → c.ix < cc.ix → FldAt 41 (argS L) ct cc) : LitFn 26 (objS L) ct c := by
  intro B p w h
  have ht := hide (fun W (bb : Below w.heap.size w W) => token_ok B p c W (h.below bb))
  have hb := hide (fun W (bb : Below w.heap.size w W) => brkF_ok' (argS L) ct c bLc bRc hc0 hlen (argS_goes hG) hE B p W (h.below bb))
  have hlt := h.lt
  have hplt := h.plt
  have hne : B ≠ w.heap.size := by omega
  have hnp : p ≠ w.heap.size := by omega
  have bA := hide (fun o => show Below w.heap.size w (w.alloc o) from (Below.refl _ _).alloc (Nat.le_refl _) _)
  have hZ := hide (fun o W (hk : Kp B (w.alloc o) W) => show W.heap[w.heap.size]? = some o from (hk.block w.heap.size (by simp) (by omega)).trans (heap_alloc_new w o))
  have hs0 := hide (show (brk (argS L) bLc bRc 0 c).1 = none → objS L c = (none, (brk (argS L) bLc bRc 0 c).2) from fun e => by unfold objS; rw [e])
  have hs1 := hide (show ∀ l, (brk (argS L) bLc bRc 0 c).1 = some l → objS L c = (some (litD 9 em false .nil (Dt.of l) c.tok.ln c.tok.co), (brk (argS L) bLc bRc 0 c).2) from fun l e => by unfold objS; rw [e])
  have hf2 := fld_pos c.tok
  obtain ⟨t, et⟩ : ∃ t, t = c.tok := ⟨_, rfl⟩
  rw [← et] at ht hs1 hf2
  obtain ⟨U, hU⟩ : ∃ U, U = brk (argS L) bLc bRc 0 c := ⟨_, rfl⟩
  rw [← hU] at hb hs0 hs1
  clear h hU et hE
  obtain ⟨r, C⟩ := U
  unfold Tk.cells at ht
  unfold ptr at ht hb ⊢
  go_enter Try.func26, Try.ntmps26
  go_wp2_with fail
  refine ((unhide ht) _ ((unhide bA) _)).mono ?_
  rintro e w1 ⟨rfl, b1⟩
  have hz1 : w.heap.size < w1.heap.size := by have := b1.size; simp at this; omega
  have bw1 := ((unhide bA) _).trans (b1.mono ((unhide bA) _).size)
  go_wp2_with fail
  refine ((unhide hb) _ (bw1.alloc bw1.size _)).mono ?_
  rintro e w2 ⟨sl, rfl, hbp, hc2, hk2⟩
  have hD2 := (hk2.block w1.heap.size (by simp) (by omega)).trans (heap_alloc_new w1 _)
  have hk12 := (Kp.of b1).trans ((Kp.of ((Below.refl _ _).alloc (Nat.le_refl _) _)).trans hk2)
  have hR2 := (unhide hZ) _ w2 hk12
  have hz2 : w1.heap.size < w2.heap.size := by have := hk2.size; simp at this; omega
  have d0 : w2.cell? ⟨w1.heap.size, 0, none⟩ = some (.int .i64 t.ln) := (dt.cell_cells hD2 0).trans rfl
  have d1 : w2.cell? ⟨w1.heap.size, 1, none⟩ = some (.int .i64 t.co) := (dt.cell_cells hD2 1).trans rfl
  have HT := hide (dt.there_cells hR2 (o := 0) (n := 7) (by decide))
  have HK := hide ((Kp.of ((unhide bA) _)).trans hk12)
  have HC := hide hc2
  have HB := hide hbp
  have hloZ := hide (show w.heap.size < (w1.alloc (.cells #[.int .i64 t.ln, .int .i64 t.co] 28)).heap.size from by simp; omega)
  clear ht hb hk2 hk12 hc2 hZ bA hR2 hD2 hbp bw1
  cases r with
  | none =>
    have hs2 := hide ((unhide hs0) rfl)
    obtain rfl : sl = .slice none 0 0 := unhide HB
    clear hs0 hs1
    go_wp2_with (first
      | refine wpList_store_mid (by rfl) 30 _ _ (by rfl) w.heap.size 0 #[.int .i64 0, .string ⟨#[]⟩, .bool false, .slice none 0 0, .slice none 0 0, .int .i64 0, .int .i64 0] (by rfl) (by rfl) (unhide HT) infoLt (dt.one_cells (cs := [.int .i64 0, .string ⟨#[]⟩, .bool false, .slice none 0 0, .slice none 0 0, .int .i64 0, .int .i64 0]) (by rfl)) ?_)
    refine bodyPost_ret (rgn.result_row_tmp rfl _ _ w.heap.size 0 [.int .i64 0, .string ⟨#[]⟩, .bool false, .slice none 0 0, .slice none 0 0, .int .i64 0, .int .i64 0] _ rfl (World.rangeAt_setCells_same _ _ _ _ (unhide HT)) Try.underlying30 rfl infoLt) rfl ?_
    rw [unhide hs2]
    exact ⟨_, [], rfl, ⟨leaf_shape 0 em false 0 0, leaf_ow _ 0 em false 0 0, List.nodup_nil, by simp⟩, (unhide HC).out hne hnp _ _, (unhide HK).out (Nat.le_refl _) _ _⟩
  | some l =>
    have hs2 := hide ((unhide hs1) l rfl)
    obtain ⟨Gs, hgr⟩ := unhide HB
    obtain ⟨a, n, c', F, rfl, how, hnd, hrg⟩ := obj_ow hgr t.ln t.co
    have HO := hide (And.intro how (And.intro hnd hrg))
    clear hs0 hs1 hgr how hnd hrg HB
    go_wp2_with (first
      | refine wpList_store_mid (by rfl) 30 _ _ (by rfl) w.heap.size 0 #[.int .i64 9, .string ⟨#[]⟩, .bool false, .slice none 0 0, .slice a n c', .int .i64 t.ln, .int .i64 t.co] (by rfl) (by rfl) (unhide HT) infoLt (dt.one_cells (cs := [.int .i64 9, .string ⟨#[]⟩, .bool false, .slice none 0 0, .slice a n c', .int .i64 t.ln, .int .i64 t.co]) (by rfl)) ?_)
    refine bodyPost_ret (rgn.result_row_tmp rfl _ _ w.heap.size 0 [.int .i64 9, .string ⟨#[]⟩, .bool false, .slice none 0 0, .slice a n c', .int .i64 t.ln, .int .i64 t.co] _ rfl (World.rangeAt_setCells_same _ _ _ _ (unhide HT)) Try.underlying30 rfl infoLt) rfl ?_
    rw [unhide hs2]
    obtain ⟨how, hnd, hrg⟩ := unhide HO
    exact ⟨_, F, rfl, ⟨⟨_, _, _, _, _, _, _, _, _, _, _, rfl⟩, ow_out how (fun hm => by have := (hrg _ hm).1; have := unhide hloZ; omega) _ _, hnd, fun b hb => ⟨by have := (hrg b hb).1; have := unhide hloZ; omega, by rw [dt.size_setCells]; exact (hrg b hb).2⟩⟩, (unhide HC).out hne hnp _ _, (unhide HK).out (Nat.le_refl _) _ _⟩
end Go.Proofs.Ytgphiollpbahgaa.cu
namespace Go.Proofs.Ytgphiollpbahgaa.cu
open Go.ChangeShapes Go.WideShapes Go.ChangeAt Go.RowKit
open ints (hide unhide)
open dt (Dt Kp RowAt Ow Grow)
set_option linter.unusedVariables false
set_option linter.unusedSimpArgs false
set_option maxRecDepth 4000 in
set_option maxHeartbeats 1000000 in
theorem field_ok (E : Cu → Option Dt × Cu) (ct : Bool) (c : Cu) (hA : FldAt 54 E ct c) : FldAt 41 E ct c := by
  intro B p w h
  have ha := hide (fun W (bb : Below w.heap.size w W) => hA B p W (h.below bb))
  have hlt := h.lt
  have hplt := h.plt
  have hne : B ≠ w.heap.size := by omega
  have hnp : p ≠ w.heap.size := by omega
  have bA := hide (fun o => show Below w.heap.size w (w.alloc o) from (Below.refl _ _).alloc (Nat.le_refl _) _)
  have hZ := hide (fun o W (hk : Kp B (w.alloc o) W) => show W.heap[w.heap.size]? = some o from (hk.block w.heap.size (by simp) (by omega)).trans (heap_alloc_new w o))
  obtain ⟨U, hU⟩ : ∃ U, U = E c := ⟨_, rfl⟩
  rw [← hU] at ha ⊢
  clear h hU hA
  obtain ⟨r, C⟩ := U
  unfold ptr at ha ⊢
  go_enter Try.func41, Try.ntmps41
  go_wp2_with fail
  refine ((unhide ha) _ ((unhide bA) _)).mono ?_
  rintro e w2 ⟨cs, F, rfl, hpo, hc2, hk2⟩
  obtain ⟨nm, ds, X, Y, ⟨k, tx, bl, ai, ni, ci, af, nf, cf, ln, co, rfl⟩, rfl⟩ := hpo.shape
  have hR2 := (unhide hZ) _ w2 hk2
  have hz2 : w.heap.size < w2.heap.size := by have := hk2.size; simp at this; omega
  have HT := hide (fun o => dt.there_cells ((Below.heap_alloc w2 o w.heap.size hz2).trans hR2) (o := 0) (n := 10) (by decide))
  have HK := hide ((Kp.of ((unhide bA) _)).trans hk2)
  have HC := hide hc2
  have HP := hide hpo
  have hrF : ∀ b ∈ F, w.heap.size < b ∧ b < w2.heap.size := fun b hb => ⟨by have := (hpo.rng b hb).1; simp at this; omega, (hpo.rng b hb).2⟩
  clear ha hk2 hc2 hZ bA hR2 hpo
  go_wp2_with (first
    | refine wpList_store_mid (by rfl) 52 _ _ (by rfl) w.heap.size 0 #[.string nm, .int .i64 k, .string tx, .bool bl, .slice ai ni ci, .slice af nf cf, .int .i64 ln, .int .i64 co, .int .i64 X, .int .i64 Y] (by rfl) (by rfl) ((unhide HT) _) infoLf (dt.one_cells (cs := [.string nm, .int .i64 k, .string tx, .bool bl, .slice ai ni ci, .slice af nf cf, .int .i64 ln, .int .i64 co, .int .i64 X, .int .i64 Y]) (by rfl)) ?_)
  refine bodyPost_ret (rgn.result_row_tmp rfl _ _ w.heap.size 0 [.string nm, .int .i64 k, .string tx, .bool bl, .slice ai ni ci, .slice af nf cf, .int .i64 ln, .int .i64 co, .int .i64 X, .int .i64 Y] _ rfl (World.rangeAt_setCells_same _ _ _ _ ((unhide HT) _)) Try.underlying52 rfl infoLf) rfl ?_
  have hown := ow_out (ow_below (unhide HP).own ((Below.refl _ _).alloc (Nat.le_refl _) (.cells #[.string nm, .int .i64 k, .string tx, .bool bl, .slice ai ni ci, .slice af nf cf, .int .i64 ln, .int .i64 co, .int .i64 X, .int .i64 Y] 104)) (fun b hb => (hrF b hb).2)) (b := w.heap.size) (fun hb => by have := (hrF _ hb).1; omega) 0 [.string nm, .int .i64 k, .string tx, .bool bl, .slice ai ni ci, .slice af nf cf, .int .i64 ln, .int .i64 co, .int .i64 X, .int .i64 Y]
  exact ⟨_, F, rfl, ⟨⟨nm, _, X, Y, ⟨k, tx, bl, ai, ni, ci, af, nf, cf, ln, co, rfl⟩, rfl⟩, hown, (unhide HP).nodup, fun b hb => ⟨by have := (hrF b hb).1; omega, by rw [dt.size_setCells]; have := (hrF b hb).2; simp; omega⟩⟩, ((unhide HC).below ((Below.refl _ _).alloc (Nat.le_refl _) _)).out hne hnp _ _, ((unhide HK).trans (Kp.of ((Below.refl _ _).alloc (Nat.le_refl _) _))).out (Nat.le_refl _) _ _⟩
theorem word_form (t : Tk) : ∃ (k : Int) (s : ByteArray), wordC t t.tx = leafC k s false t.ln t.co ∧ wordD t = litD k s false .nil .nil t.ln t.co := by
  unfold wordC wordD
  split
  · exact ⟨5, t.tx, rfl, rfl⟩
  · split
    · exact ⟨6, em, rfl, rfl⟩
    · exact ⟨7, t.tx, rfl, rfl⟩
theorem var_post (c : Cu) : ∃ d, (varS c).1.getD zeroD = d ∧ (varS c).1.isSome = c.take.isN ∧ (varS c).2 = c.take.name ∧ ∃ k s ln co, varC c = leafC k s false ln co ∧ d = litD k s false .nil .nil ln co := by
  unfold varS varC
  split
  · exact ⟨_, rfl, by simp [*], rfl, _, _, _, _, rfl, rfl⟩
  · exact ⟨_, rfl, by simp [*], rfl, 0, em, 0, 0, rfl, rfl⟩
set_option maxRecDepth 4000 in
set_option maxHeartbeats 8000000 in
theorem lit_ok (L : Cu → Option Dt × Cu) (ct : Bool) (c : Cu) (hc0 : c.Ok) (hls' : LitFn 25 (listS L) ct c) (hob' : LitFn 26 (objS L) ct c) : LitAt (litS L ct) ct c := by
  intro B p w h
  have hd := hide (fun W (bb : Below w.heap.size w W) => dead_ok B p c W (h.below bb))
  have ht := hide (fun W (bb : Below w.heap.size w W) => token_ok B p c W (h.below bb))
  have hip := hide (fun q W (bb : Below w.heap.size w W) => isPunct_ok B p c q W (h.below bb))
  have hrf := hide (fun W (bb : Below w.heap.size w W) => refuse0_ok B p c W (h.below bb))
  have hls := hide (fun W (bb : Below w.heap.size w W) => hls' B p W (h.below bb))
  have hob := hide (fun W (bb : Below w.heap.size w W) => hob' B p W (h.below bb))
  have hlt := h.lt
  have hplt := h.plt
  have hne : B ≠ w.heap.size := by omega
  have hnp : p ≠ w.heap.size := by omega
  have bA := hide (fun o => show Below w.heap.size w (w.alloc o) from (Below.refl _ _).alloc (Nat.le_refl _) _)
  have hZ := hide (fun o W (hk : Kp B (w.alloc o) W) => show W.heap[w.heap.size]? = some o from (hk.block w.heap.size (by simp) (by omega)).trans (heap_alloc_new w o))
  by_cases hkd : c.kd = 0
  · have ekd : (c.kd != 0) = false := by simpa using hkd
    have hm : ∀ k : Int, c.tok.k = k → k ≠ 0 → k ≠ 1 → c.ix + 1 < c.ts.length := fun k e h0 h1 => more_of hc0 (by rw [e]; exact h0) (by rw [e]; exact h1)
    have hSS := hide (show litS L ct c = (if c.tok.k = 4 then (some (litD 2 c.tok.tx false .nil .nil c.tok.ln c.tok.co), c.take)
      else if c.tok.k = 5 then (some (litD 3 c.tok.tx false .nil .nil c.tok.ln c.tok.co), c.take)
      else if c.tok.k = 6 ∨ c.tok.k = 7 then (some (litD 4 c.tok.va (decide (c.tok.k = 7)) .nil .nil c.tok.ln c.tok.co), c.take)
      else if c.tok.k = 3 then (some (wordD c.tok), c.take)
      else if c.isP bDol ∧ ct = false then varS c
      else if c.isP bLb then listS L c
      else if c.isP bLc then objS L c
      else (none, c.stop 70)) from by unfold litS; rw [if_neg (fun e => e hkd)])
    have hl := hide (fun k s W (bb : Below w.heap.size w W) (hm : c.ix + 1 < c.ts.length) => leaf_ok B p c k s W (h.below bb) hm)
    have hwd := hide (fun s W (bb : Below w.heap.size w W) (hm : c.ix + 1 < c.ts.length) => word_ok B p c s W (h.below bb) hm)
    have hvr := hide (fun W (bb : Below w.heap.size w W) (hm : c.ix + 1 < c.ts.length) => var_ok B p c W (h.below bb) hm)
    have hmP := hide (fun q (e : c.isP q = true) => isP_more hc0 e)
    obtain ⟨t, et⟩ : ∃ t, t = c.tok := ⟨_, rfl⟩
    rw [← et] at ht hl hwd hSS hm
    rw [ekd] at hd
    have Het := hide et
    clear h et hls' hob' hkd ekd
    unfold Tk.cells at ht
    unfold leafC at hl
    unfold ptr at hd ht hip hrf hls hob hl hwd hvr ⊢
    by_cases h4 : t.k = 4
    · have e4 : (t.k == 4) = true := by simpa using h4
      have hmm := hm 4 h4 (by decide) (by decide)
      have hl := hide (fun k s W bb => (unhide hl) k s W bb hmm)
      have hs2 := hide (show litS L ct c = (some (litD 2 t.tx false .nil .nil t.ln t.co), c.take) from by rw [unhide hSS, if_pos h4])
      clear h4 hm hSS hmm
      go_enter Try.func12, Try.ntmps12
      go_wp2_with fail
      refine ((unhide hd) _ ((unhide bA) _)).mono ?_
      rintro e w1 ⟨rfl, rfl⟩
      go_wp2_with fail
      refine ((unhide ht) _ ((unhide bA) _)).mono ?_
      rintro e w1 ⟨rfl, b1⟩
      have bw1 := ((unhide bA) _).trans (b1.mono ((unhide bA) _).size)
      have bw2 := fun o => bw1.alloc bw1.size o
      go_wp2_with fail
      refine ((unhide hl) 2 t.tx _ (bw2 _)).mono ?_
      rintro e w2 ⟨rfl, hc2, hk2⟩
      have hk02 := (Kp.of b1).trans ((Kp.of ((Below.refl _ _).alloc (Nat.le_refl _) _)).trans hk2)
      have hR2 := (unhide hZ) _ w2 hk02
      have HT := hide (dt.there_cells hR2 (o := 0) (n := 7) (by decide))
      have HK := hide ((Kp.of ((unhide bA) _)).trans hk02)
      have HC := hide hc2
      clear hl hwd hvr hls hob hip hrf ht hd hk2 hk02 hc2 hZ bA hR2 bw1 bw2
      go_wp2_with (first
        | refine wpList_store_mid (by rfl) 30 _ _ (by rfl) w.heap.size 0 #[.int .i64 2, .string t.tx, .bool false, .slice none 0 0, .slice none 0 0, .int .i64 t.ln, .int .i64 t.co] (by rfl) (by rfl) (unhide HT) infoLt (dt.one_cells (cs := [.int .i64 2, .string t.tx, .bool false, .slice none 0 0, .slice none 0 0, .int .i64 t.ln, .int .i64 t.co]) (by rfl)) ?_)
      refine bodyPost_ret (rgn.result_row_tmp rfl _ _ w.heap.size 0 [.int .i64 2, .string t.tx, .bool false, .slice none 0 0, .slice none 0 0, .int .i64 t.ln, .int .i64 t.co] _ rfl (World.rangeAt_setCells_same _ _ _ _ (unhide HT)) Try.underlying30 rfl infoLt) rfl ?_
      rw [unhide hs2]
      exact ⟨_, [], rfl, ⟨leaf_shape 2 t.tx false t.ln t.co, leaf_ow _ 2 t.tx false t.ln t.co, List.nodup_nil, by simp⟩, (unhide HC).out hne hnp _ _, (unhide HK).out (Nat.le_refl _) _ _⟩
    have e4 : (t.k == 4) = false := by simpa using h4
    by_cases h5 : t.k = 5
    · have e5 : (t.k == 5) = true := by simpa using h5
      have hmm := hm 5 h5 (by decide) (by decide)
      have hl := hide (fun k s W bb => (unhide hl) k s W bb hmm)
      have hs2 := hide (show litS L ct c = (some (litD 3 t.tx false .nil .nil t.ln t.co), c.take) from by rw [unhide hSS, if_neg h4, if_pos h5])
      clear h4 h5 hm hSS hmm
      go_enter Try.func12, Try.ntmps12
      go_wp2_with fail
      refine ((unhide hd) _ ((unhide bA) _)).mono ?_
      rintro e w1 ⟨rfl, rfl⟩
      go_wp2_with fail
      refine ((unhide ht) _ ((unhide bA) _)).mono ?_
      rintro e w1 ⟨rfl, b1⟩
      have bw1 := ((unhide bA) _).trans (b1.mono ((unhide bA) _).size)
      have bw2 := fun o => bw1.alloc bw1.size o
      go_wp2_with fail
      refine ((unhide hl) 3 t.tx _ (bw2 _)).mono ?_
      rintro e w2 ⟨rfl, hc2, hk2⟩
      have hk02 := (Kp.of b1).trans ((Kp.of ((Below.refl _ _).alloc (Nat.le_refl _) _)).trans hk2)
      have hR2 := (unhide hZ) _ w2 hk02
      have HT := hide (dt.there_cells hR2 (o := 0) (n := 7) (by decide))
      have HK := hide ((Kp.of ((unhide bA) _)).trans hk02)
      have HC := hide hc2
      clear hl hwd hvr hls hob hip hrf ht hd hk2 hk02 hc2 hZ bA hR2 bw1 bw2
      go_wp2_with (first
        | refine wpList_store_mid (by rfl) 30 _ _ (by rfl) w.heap.size 0 #[.int .i64 3, .string t.tx, .bool false, .slice none 0 0, .slice none 0 0, .int .i64 t.ln, .int .i64 t.co] (by rfl) (by rfl) (unhide HT) infoLt (dt.one_cells (cs := [.int .i64 3, .string t.tx, .bool false, .slice none 0 0, .slice none 0 0, .int .i64 t.ln, .int .i64 t.co]) (by rfl)) ?_)
      refine bodyPost_ret (rgn.result_row_tmp rfl _ _ w.heap.size 0 [.int .i64 3, .string t.tx, .bool false, .slice none 0 0, .slice none 0 0, .int .i64 t.ln, .int .i64 t.co] _ rfl (World.rangeAt_setCells_same _ _ _ _ (unhide HT)) Try.underlying30 rfl infoLt) rfl ?_
      rw [unhide hs2]
      exact ⟨_, [], rfl, ⟨leaf_shape 3 t.tx false t.ln t.co, leaf_ow _ 3 t.tx false t.ln t.co, List.nodup_nil, by simp⟩, (unhide HC).out hne hnp _ _, (unhide HK).out (Nat.le_refl _) _ _⟩
    have e5 : (t.k == 5) = false := by simpa using h5
    by_cases h6 : t.k = 6
    · have e6 : (t.k == 6) = true := by simpa using h6
      have e7 : (t.k == 7) = false := by rw [h6]; rfl
      have hmm := hm 6 h6 (by decide) (by decide)
      have hl := hide (fun k s W bb => (unhide hl) k s W bb hmm)
      have hs2 := hide (show litS L ct c = (some (litD 4 t.va false .nil .nil t.ln t.co), c.take) from by rw [unhide hSS, if_neg h4, if_neg h5, if_pos (.inl h6), show decide (t.k = 7) = false from by rw [h6]; rfl])
      clear h4 h5 h6 hm hSS hmm
      go_enter Try.func12, Try.ntmps12
      go_wp2_with fail
      refine ((unhide hd) _ ((unhide bA) _)).mono ?_
      rintro e w1 ⟨rfl, rfl⟩
      go_wp2_with fail
      refine ((unhide ht) _ ((unhide bA) _)).mono ?_
      rintro e w1 ⟨rfl, b1⟩
      have bw1 := ((unhide bA) _).trans (b1.mono ((unhide bA) _).size)
      have bw2 := fun o => bw1.alloc bw1.size o
      go_wp2_with fail
      refine ((unhide hl) 4 t.va _ (bw2 _)).mono ?_
      rintro e w2 ⟨rfl, hc2, hk2⟩
      have hT2 := (hk2.block w1.heap.size (by simp) (by have := bw1.size; omega)).trans (heap_alloc_new w1 _)
      have hk02 := (Kp.of b1).trans ((Kp.of ((Below.refl _ _).alloc (Nat.le_refl _) _)).trans hk2)
      have hR2 := (unhide hZ) _ w2 hk02
      have hz2 : w.heap.size < w2.heap.size := by have := hk02.size; simp at this; omega
      have hz3 : w1.heap.size < w2.heap.size := by have := hk2.size; simp at this; omega
      have k0 : ∀ o, (w2.alloc o).cell? ⟨w1.heap.size, 0, none⟩ = some (.int .i64 t.k) := fun o => (dt.cell_cells ((Below.heap_alloc w2 o w1.heap.size hz3).trans hT2) 0).trans rfl
      have HT := hide (fun o => dt.there_cells ((Below.heap_alloc w2 o w.heap.size hz2).trans hR2) (o := 0) (n := 7) (by decide))
      have HK := hide ((Kp.of ((unhide bA) _)).trans hk02)
      have HC := hide hc2
      clear hl hwd hvr hls hob hip hrf ht hd hk2 hk02 hc2 hZ bA hR2 bw1 bw2 hT2
      go_wp2_with (first
        | refine wpList_store_mid (by rfl) 30 _ _ (by rfl) w.heap.size 0 #[.int .i64 4, .string t.va, .bool false, .slice none 0 0, .slice none 0 0, .int .i64 t.ln, .int .i64 t.co] (by rfl) (by rfl) ((unhide HT) _) infoLt (dt.one_cells (cs := [.int .i64 4, .string t.va, .bool false, .slice none 0 0, .slice none 0 0, .int .i64 t.ln, .int .i64 t.co]) (by rfl)) ?_)
      refine bodyPost_ret (rgn.result_row_tmp rfl _ _ w.heap.size 0 [.int .i64 4, .string t.va, .bool false, .slice none 0 0, .slice none 0 0, .int .i64 t.ln, .int .i64 t.co] _ rfl (World.rangeAt_setCells_same _ _ _ _ ((unhide HT) _)) Try.underlying30 rfl infoLt) rfl ?_
      rw [unhide hs2]
      exact ⟨_, [], rfl, ⟨leaf_shape 4 t.va false t.ln t.co, leaf_ow _ 4 t.va false t.ln t.co, List.nodup_nil, by simp⟩, ((unhide HC).below ((Below.refl _ _).alloc (Nat.le_refl _) _)).out hne hnp _ _, ((unhide HK).trans (Kp.of ((Below.refl _ _).alloc (Nat.le_refl _) _))).out (Nat.le_refl _) _ _⟩
    have e6 : (t.k == 6) = false := by simpa using h6
    by_cases h7 : t.k = 7
    · have e7 : (t.k == 7) = true := by simpa using h7
      have hmm := hm 7 h7 (by decide) (by decide)
      have hl := hide (fun k s W bb => (unhide hl) k s W bb hmm)
      have hs2 := hide (show litS L ct c = (some (litD 4 t.va true .nil .nil t.ln t.co), c.take) from by rw [unhide hSS, if_neg h4, if_neg h5, if_pos (.inr h7), show decide (t.k = 7) = true from by rw [h7]; rfl])
      clear h4 h5 h6 h7 hm hSS hmm
      go_enter Try.func12, Try.ntmps12
      go_wp2_with fail
      refine ((unhide hd) _ ((unhide bA) _)).mono ?_
      rintro e w1 ⟨rfl, rfl⟩
      go_wp2_with fail
      refine ((unhide ht) _ ((unhide bA) _)).mono ?_
      rintro e w1 ⟨rfl, b1⟩
      have bw1 := ((unhide bA) _).trans (b1.mono ((unhide bA) _).size)
      have bw2 := fun o => bw1.alloc bw1.size o
      go_wp2_with fail
      refine ((unhide hl) 4 t.va _ (bw2 _)).mono ?_
      rintro e w2 ⟨rfl, hc2, hk2⟩
      have hT2 := (hk2.block w1.heap.size (by simp) (by have := bw1.size; omega)).trans (heap_alloc_new w1 _)
      have hk02 := (Kp.of b1).trans ((Kp.of ((Below.refl _ _).alloc (Nat.le_refl _) _)).trans hk2)
      have hR2 := (unhide hZ) _ w2 hk02
      have hz2 : w.heap.size < w2.heap.size := by have := hk02.size; simp at this; omega
      have hz3 : w1.heap.size < w2.heap.size := by have := hk2.size; simp at this; omega
      have k0 : ∀ o, (w2.alloc o).cell? ⟨w1.heap.size, 0, none⟩ = some (.int .i64 t.k) := fun o => (dt.cell_cells ((Below.heap_alloc w2 o w1.heap.size hz3).trans hT2) 0).trans rfl
      have HT := hide (fun o => dt.there_cells ((Below.heap_alloc w2 o w.heap.size hz2).trans hR2) (o := 0) (n := 7) (by decide))
      have HK := hide ((Kp.of ((unhide bA) _)).trans hk02)
      have HC := hide hc2
      clear hl hwd hvr hls hob hip hrf ht hd hk2 hk02 hc2 hZ bA hR2 bw1 bw2 hT2
      go_wp2_with (first
        | refine wpList_store_mid (by rfl) 30 _ _ (by rfl) w.heap.size 0 #[.int .i64 4, .string t.va, .bool true, .slice none 0 0, .slice none 0 0, .int .i64 t.ln, .int .i64 t.co] (by rfl) (by rfl) ((unhide HT) _) infoLt (dt.one_cells (cs := [.int .i64 4, .string t.va, .bool true, .slice none 0 0, .slice none 0 0, .int .i64 t.ln, .int .i64 t.co]) (by rfl)) ?_)
      refine bodyPost_ret (rgn.result_row_tmp rfl _ _ w.heap.size 0 [.int .i64 4, .string t.va, .bool true, .slice none 0 0, .slice none 0 0, .int .i64 t.ln, .int .i64 t.co] _ rfl (World.rangeAt_setCells_same _ _ _ _ ((unhide HT) _)) Try.underlying30 rfl infoLt) rfl ?_
      rw [unhide hs2]
      exact ⟨_, [], rfl, ⟨leaf_shape 4 t.va true t.ln t.co, leaf_ow _ 4 t.va true t.ln t.co, List.nodup_nil, by simp⟩, ((unhide HC).below ((Below.refl _ _).alloc (Nat.le_refl _) _)).out hne hnp _ _, ((unhide HK).trans (Kp.of ((Below.refl _ _).alloc (Nat.le_refl _) _))).out (Nat.le_refl _) _ _⟩
    have e7 : (t.k == 7) = false := by simpa using h7
    by_cases h3 : t.k = 3
    · have e3 : (t.k == 3) = true := by simpa using h3
      have hmm := hm 3 h3 (by decide) (by decide)
      have hwd := hide (fun s W bb => (unhide hwd) s W bb hmm)
      have hs2 := hide (show litS L ct c = (some (wordD t), c.take) from by rw [unhide hSS, if_neg h4, if_neg h5, if_neg (fun e => e.elim h6 h7), if_pos h3])
      clear h4 h5 h6 h7 h3 hm hSS hmm
      go_enter Try.func12, Try.ntmps12
      go_wp2_with fail
      refine ((unhide hd) _ ((unhide bA) _)).mono ?_
      rintro e w1 ⟨rfl, rfl⟩
      go_wp2_with fail
      refine ((unhide ht) _ ((unhide bA) _)).mono ?_
      rintro e w1 ⟨rfl, b1⟩
      have bw1 := ((unhide bA) _).trans (b1.mono ((unhide bA) _).size)
      have bw2 := fun o => bw1.alloc bw1.size o
      go_wp2_with fail
      refine ((unhide hwd) t.tx _ (bw2 _)).mono ?_
      rintro e w2 ⟨rfl, hc2, hk2⟩
      have hk02 := (Kp.of b1).trans ((Kp.of ((Below.refl _ _).alloc (Nat.le_refl _) _)).trans hk2)
      have hR2 := (unhide hZ) _ w2 hk02
      have HT := hide (dt.there_cells hR2 (o := 0) (n := 7) (by decide))
      have HK := hide ((Kp.of ((unhide bA) _)).trans hk02)
      have HC := hide hc2
      obtain ⟨kk, tt, hwc, hwD⟩ := word_form t
      rw [hwc]
      rw [hwD] at hs2
      clear hl hwd hvr hls hob hip hrf ht hd hk2 hk02 hc2 hZ bA hR2 bw1 bw2
      unfold leafC
      go_wp2_with (first
        | refine wpList_store_mid (by rfl) 30 _ _ (by rfl) w.heap.size 0 #[.int .i64 kk, .string tt, .bool false, .slice none 0 0, .slice none 0 0, .int .i64 t.ln, .int .i64 t.co] (by rfl) (by rfl) (unhide HT) infoLt (dt.one_cells (cs := [.int .i64 kk, .string tt, .bool false, .slice none 0 0, .slice none 0 0, .int .i64 t.ln, .int .i64 t.co]) (by rfl)) ?_)
      refine bodyPost_ret (rgn.result_row_tmp rfl _ _ w.heap.size 0 [.int .i64 kk, .string tt, .bool false, .slice none 0 0, .slice none 0 0, .int .i64 t.ln, .int .i64 t.co] _ rfl (World.rangeAt_setCells_same _ _ _ _ (unhide HT)) Try.underlying30 rfl infoLt) rfl ?_
      rw [unhide hs2]
      exact ⟨_, [], rfl, ⟨leaf_shape kk tt false t.ln t.co, leaf_ow _ kk tt false t.ln t.co, List.nodup_nil, by simp⟩, (unhide HC).out hne hnp _ _, (unhide HK).out (Nat.le_refl _) _ _⟩
    have e3 : (t.k == 3) = false := by simpa using h3
    have hS2 := hide (show litS L ct c = (if c.isP bDol ∧ ct = false then varS c else if c.isP bLb then listS L c else if c.isP bLc then objS L c else (none, c.stop 70)) from by rw [unhide hSS, if_neg h4, if_neg h5, if_neg (fun e => e.elim h6 h7), if_neg h3])
    clear h4 h5 h6 h7 h3 hm hSS hl hwd
    cases hP1 : c.isP bDol
    · cases ct
      · cases hP2 : c.isP bLb
        · cases hP3 : c.isP bLc
          · have hs2 := hide (show litS L false c = (none, c.stop 70) from by rw [unhide hS2, if_neg (fun e => by rw [hP1] at e; exact absurd e.1 (by simp)), if_neg (by rw [hP2]; simp), if_neg (by rw [hP3]; simp)])
            clear hS2
            go_enter Try.func12, Try.ntmps12
            go_wp2_with fail
            refine ((unhide hd) _ ((unhide bA) _)).mono ?_
            rintro e w1 ⟨rfl, rfl⟩
            go_wp2_with fail
            refine ((unhide ht) _ ((unhide bA) _)).mono ?_
            rintro e w1 ⟨rfl, b1⟩
            have bw1 := ((unhide bA) _).trans (b1.mono ((unhide bA) _).size)
            have c2 := b1.alloc b1.size (.cells #[.int .i64 t.k, .int .i64 t.ln, .int .i64 t.co, .int .i64 t.fr, .int .i64 t.to, .string t.tx, .string t.va] 65)
            have bw2 := ((unhide bA) _).trans (c2.mono ((unhide bA) _).size)
            go_wp2_with fail
            refine ((unhide hip) bDol _ bw2).mono ?_
            rintro e w3 ⟨rfl, b3⟩
            rw [hP1]
            have c3 := c2.trans (b3.mono c2.size)
            have bw3 := ((unhide bA) _).trans (c3.mono ((unhide bA) _).size)
            go_wp2_with fail
            refine ((unhide hip) bLb _ bw3).mono ?_
            rintro e w4 ⟨rfl, b4⟩
            rw [hP2]
            have c4 := c3.trans (b4.mono c3.size)
            have bw4 := ((unhide bA) _).trans (c4.mono ((unhide bA) _).size)
            go_wp2_with fail
            refine ((unhide hip) bLc _ bw4).mono ?_
            rintro e w5 ⟨rfl, b5⟩
            rw [hP3]
            have c5 := c4.trans (b5.mono c4.size)
            have bw5 := ((unhide bA) _).trans (c5.mono ((unhide bA) _).size)
            go_wp2_with fail
            refine ((unhide hrf) _ bw5).mono ?_
            rintro e w9 ⟨rfl, hc9, hk9⟩
            have hk09 := (Kp.of c5).trans hk9
            have hR9 := (unhide hZ) _ w9 hk09
            have HT := hide (dt.there_cells hR9 (o := 0) (n := 7) (by decide))
            have HK := hide ((Kp.of ((unhide bA) _)).trans hk09)
            have HC := hide hc9
            clear hvr hls hob hip hrf ht hd hk9 hk09 hc9 hZ bA hR9
            go_wp2_with (first
              | refine wpList_store_mid (by rfl) 30 _ _ (by rfl) w.heap.size 0 #[.int .i64 0, .string ⟨#[]⟩, .bool false, .slice none 0 0, .slice none 0 0, .int .i64 0, .int .i64 0] (by rfl) (by rfl) (unhide HT) infoLt (dt.one_cells (cs := [.int .i64 0, .string ⟨#[]⟩, .bool false, .slice none 0 0, .slice none 0 0, .int .i64 0, .int .i64 0]) (by rfl)) ?_)
            refine bodyPost_ret (rgn.result_row_tmp rfl _ _ w.heap.size 0 [.int .i64 0, .string ⟨#[]⟩, .bool false, .slice none 0 0, .slice none 0 0, .int .i64 0, .int .i64 0] _ rfl (World.rangeAt_setCells_same _ _ _ _ (unhide HT)) Try.underlying30 rfl infoLt) rfl ?_
            rw [unhide hs2]
            exact ⟨_, [], rfl, ⟨leaf_shape 0 em false 0 0, leaf_ow _ 0 em false 0 0, List.nodup_nil, by simp⟩, (unhide HC).out hne hnp _ _, (unhide HK).out (Nat.le_refl _) _ _⟩
          · have hs2 := hide (show litS L false c = objS L c from by rw [unhide hS2, if_neg (fun e => by rw [hP1] at e; exact absurd e.1 (by simp)), if_neg (by rw [hP2]; simp), if_pos hP3])
            clear hS2
            go_enter Try.func12, Try.ntmps12
            go_wp2_with fail
            refine ((unhide hd) _ ((unhide bA) _)).mono ?_
            rintro e w1 ⟨rfl, rfl⟩
            go_wp2_with fail
            refine ((unhide ht) _ ((unhide bA) _)).mono ?_
            rintro e w1 ⟨rfl, b1⟩
            have bw1 := ((unhide bA) _).trans (b1.mono ((unhide bA) _).size)
            have c2 := b1.alloc b1.size (.cells #[.int .i64 t.k, .int .i64 t.ln, .int .i64 t.co, .int .i64 t.fr, .int .i64 t.to, .string t.tx, .string t.va] 65)
            have bw2 := ((unhide bA) _).trans (c2.mono ((unhide bA) _).size)
            go_wp2_with fail
            refine ((unhide hip) bDol _ bw2).mono ?_
            rintro e w3 ⟨rfl, b3⟩
            rw [hP1]
            have c3 := c2.trans (b3.mono c2.size)
            have bw3 := ((unhide bA) _).trans (c3.mono ((unhide bA) _).size)
            go_wp2_with fail
            refine ((unhide hip) bLb _ bw3).mono ?_
            rintro e w4 ⟨rfl, b4⟩
            rw [hP2]
            have c4 := c3.trans (b4.mono c3.size)
            have bw4 := ((unhide bA) _).trans (c4.mono ((unhide bA) _).size)
            go_wp2_with fail
            refine ((unhide hip) bLc _ bw4).mono ?_
            rintro e w5 ⟨rfl, b5⟩
            rw [hP3]
            have c5 := c4.trans (b5.mono c4.size)
            have bw5 := ((unhide bA) _).trans (c5.mono ((unhide bA) _).size)
            go_wp2_with fail
            refine ((unhide hob) _ bw5).mono ?_
            rintro e w9 ⟨cs, F, rfl, hpo, hc9, hk9⟩
            obtain ⟨kk, tt, bl, ai, ni, ci, af, nf, cf, ln, co, rfl⟩ := hpo.shape
            have hk09 := (Kp.of c5).trans hk9
            have hR9 := (unhide hZ) _ w9 hk09
            have HT := hide (dt.there_cells hR9 (o := 0) (n := 7) (by decide))
            have HK := hide ((Kp.of ((unhide bA) _)).trans hk09)
            have HC := hide hc9
            have HP := hide hpo
            have hlo := hide (show w.heap.size < w5.heap.size from by have := c5.size; simp at this; omega)
            clear hvr hls hob hip hrf ht hd hk9 hk09 hc9 hZ bA hR9 hpo
            go_wp2_with (first
              | refine wpList_store_mid (by rfl) 30 _ _ (by rfl) w.heap.size 0 #[.int .i64 kk, .string tt, .bool bl, .slice ai ni ci, .slice af nf cf, .int .i64 ln, .int .i64 co] (by rfl) (by rfl) (unhide HT) infoLt (dt.one_cells (cs := [.int .i64 kk, .string tt, .bool bl, .slice ai ni ci, .slice af nf cf, .int .i64 ln, .int .i64 co]) (by rfl)) ?_)
            refine bodyPost_ret (rgn.result_row_tmp rfl _ _ w.heap.size 0 [.int .i64 kk, .string tt, .bool bl, .slice ai ni ci, .slice af nf cf, .int .i64 ln, .int .i64 co] _ rfl (World.rangeAt_setCells_same _ _ _ _ (unhide HT)) Try.underlying30 rfl infoLt) rfl ?_
            rw [unhide hs2]
            exact ⟨_, F, rfl, ⟨(unhide HP).shape, ow_out (unhide HP).own (fun hm => by have := ((unhide HP).rng _ hm).1; have := unhide hlo; omega) _ _, (unhide HP).nodup, fun b hb => ⟨by have := ((unhide HP).rng b hb).1; have := unhide hlo; omega, by rw [dt.size_setCells]; exact ((unhide HP).rng b hb).2⟩⟩, (unhide HC).out hne hnp _ _, (unhide HK).out (Nat.le_refl _) _ _⟩
        · have hs2 := hide (show litS L false c = listS L c from by rw [unhide hS2, if_neg (fun e => by rw [hP1] at e; exact absurd e.1 (by simp)), if_pos hP2])
          clear hS2
          go_enter Try.func12, Try.ntmps12
          go_wp2_with fail
          refine ((unhide hd) _ ((unhide bA) _)).mono ?_
          rintro e w1 ⟨rfl, rfl⟩
          go_wp2_with fail
          refine ((unhide ht) _ ((unhide bA) _)).mono ?_
          rintro e w1 ⟨rfl, b1⟩
          have bw1 := ((unhide bA) _).trans (b1.mono ((unhide bA) _).size)
          have c2 := b1.alloc b1.size (.cells #[.int .i64 t.k, .int .i64 t.ln, .int .i64 t.co, .int .i64 t.fr, .int .i64 t.to, .string t.tx, .string t.va] 65)
          have bw2 := ((unhide bA) _).trans (c2.mono ((unhide bA) _).size)
          go_wp2_with fail
          refine ((unhide hip) bDol _ bw2).mono ?_
          rintro e w3 ⟨rfl, b3⟩
          rw [hP1]
          have c3 := c2.trans (b3.mono c2.size)
          have bw3 := ((unhide bA) _).trans (c3.mono ((unhide bA) _).size)
          go_wp2_with fail
          refine ((unhide hip) bLb _ bw3).mono ?_
          rintro e w4 ⟨rfl, b4⟩
          rw [hP2]
          have c4 := c3.trans (b4.mono c3.size)
          have bw4 := ((unhide bA) _).trans (c4.mono ((unhide bA) _).size)
          go_wp2_with fail
          refine ((unhide hls) _ bw4).mono ?_
          rintro e w9 ⟨cs, F, rfl, hpo, hc9, hk9⟩
          obtain ⟨kk, tt, bl, ai, ni, ci, af, nf, cf, ln, co, rfl⟩ := hpo.shape
          have hk09 := (Kp.of c4).trans hk9
          have hR9 := (unhide hZ) _ w9 hk09
          have HT := hide (dt.there_cells hR9 (o := 0) (n := 7) (by decide))
          have HK := hide ((Kp.of ((unhide bA) _)).trans hk09)
          have HC := hide hc9
          have HP := hide hpo
          have hlo := hide (show w.heap.size < w4.heap.size from by have := c4.size; simp at this; omega)
          clear hvr hls hob hip hrf ht hd hk9 hk09 hc9 hZ bA hR9 hpo
          go_wp2_with (first
            | refine wpList_store_mid (by rfl) 30 _ _ (by rfl) w.heap.size 0 #[.int .i64 kk, .string tt, .bool bl, .slice ai ni ci, .slice af nf cf, .int .i64 ln, .int .i64 co] (by rfl) (by rfl) (unhide HT) infoLt (dt.one_cells (cs := [.int .i64 kk, .string tt, .bool bl, .slice ai ni ci, .slice af nf cf, .int .i64 ln, .int .i64 co]) (by rfl)) ?_)
          refine bodyPost_ret (rgn.result_row_tmp rfl _ _ w.heap.size 0 [.int .i64 kk, .string tt, .bool bl, .slice ai ni ci, .slice af nf cf, .int .i64 ln, .int .i64 co] _ rfl (World.rangeAt_setCells_same _ _ _ _ (unhide HT)) Try.underlying30 rfl infoLt) rfl ?_
          rw [unhide hs2]
          exact ⟨_, F, rfl, ⟨(unhide HP).shape, ow_out (unhide HP).own (fun hm => by have := ((unhide HP).rng _ hm).1; have := unhide hlo; omega) _ _, (unhide HP).nodup, fun b hb => ⟨by have := ((unhide HP).rng b hb).1; have := unhide hlo; omega, by rw [dt.size_setCells]; exact ((unhide HP).rng b hb).2⟩⟩, (unhide HC).out hne hnp _ _, (unhide HK).out (Nat.le_refl _) _ _⟩
      · cases hP2 : c.isP bLb
        · cases hP3 : c.isP bLc
          · have hs2 := hide (show litS L true c = (none, c.stop 70) from by rw [unhide hS2, if_neg (fun e => by rw [hP1] at e; exact absurd e.1 (by simp)), if_neg (by rw [hP2]; simp), if_neg (by rw [hP3]; simp)])
            clear hS2
            go_enter Try.func12, Try.ntmps12
            go_wp2_with fail
            refine ((unhide hd) _ ((unhide bA) _)).mono ?_
            rintro e w1 ⟨rfl, rfl⟩
            go_wp2_with fail
            refine ((unhide ht) _ ((unhide bA) _)).mono ?_
            rintro e w1 ⟨rfl, b1⟩
            have bw1 := ((unhide bA) _).trans (b1.mono ((unhide bA) _).size)
            have c2 := b1.alloc b1.size (.cells #[.int .i64 t.k, .int .i64 t.ln, .int .i64 t.co, .int .i64 t.fr, .int .i64 t.to, .string t.tx, .string t.va] 65)
            have bw2 := ((unhide bA) _).trans (c2.mono ((unhide bA) _).size)
            go_wp2_with fail
            refine ((unhide hip) bDol _ bw2).mono ?_
            rintro e w3 ⟨rfl, b3⟩
            rw [hP1]
            have c3 := c2.trans (b3.mono c2.size)
            have bw3 := ((unhide bA) _).trans (c3.mono ((unhide bA) _).size)
            go_wp2_with fail
            refine ((unhide hip) bLb _ bw3).mono ?_
            rintro e w4 ⟨rfl, b4⟩
            rw [hP2]
            have c4 := c3.trans (b4.mono c3.size)
            have bw4 := ((unhide bA) _).trans (c4.mono ((unhide bA) _).size)
            go_wp2_with fail
            refine ((unhide hip) bLc _ bw4).mono ?_
            rintro e w5 ⟨rfl, b5⟩
            rw [hP3]
            have c5 := c4.trans (b5.mono c4.size)
            have bw5 := ((unhide bA) _).trans (c5.mono ((unhide bA) _).size)
            go_wp2_with fail
            refine ((unhide hrf) _ bw5).mono ?_
            rintro e w9 ⟨rfl, hc9, hk9⟩
            have hk09 := (Kp.of c5).trans hk9
            have hR9 := (unhide hZ) _ w9 hk09
            have HT := hide (dt.there_cells hR9 (o := 0) (n := 7) (by decide))
            have HK := hide ((Kp.of ((unhide bA) _)).trans hk09)
            have HC := hide hc9
            clear hvr hls hob hip hrf ht hd hk9 hk09 hc9 hZ bA hR9
            go_wp2_with (first
              | refine wpList_store_mid (by rfl) 30 _ _ (by rfl) w.heap.size 0 #[.int .i64 0, .string ⟨#[]⟩, .bool false, .slice none 0 0, .slice none 0 0, .int .i64 0, .int .i64 0] (by rfl) (by rfl) (unhide HT) infoLt (dt.one_cells (cs := [.int .i64 0, .string ⟨#[]⟩, .bool false, .slice none 0 0, .slice none 0 0, .int .i64 0, .int .i64 0]) (by rfl)) ?_)
            refine bodyPost_ret (rgn.result_row_tmp rfl _ _ w.heap.size 0 [.int .i64 0, .string ⟨#[]⟩, .bool false, .slice none 0 0, .slice none 0 0, .int .i64 0, .int .i64 0] _ rfl (World.rangeAt_setCells_same _ _ _ _ (unhide HT)) Try.underlying30 rfl infoLt) rfl ?_
            rw [unhide hs2]
            exact ⟨_, [], rfl, ⟨leaf_shape 0 em false 0 0, leaf_ow _ 0 em false 0 0, List.nodup_nil, by simp⟩, (unhide HC).out hne hnp _ _, (unhide HK).out (Nat.le_refl _) _ _⟩
          · have hs2 := hide (show litS L true c = objS L c from by rw [unhide hS2, if_neg (fun e => by rw [hP1] at e; exact absurd e.1 (by simp)), if_neg (by rw [hP2]; simp), if_pos hP3])
            clear hS2
            go_enter Try.func12, Try.ntmps12
            go_wp2_with fail
            refine ((unhide hd) _ ((unhide bA) _)).mono ?_
            rintro e w1 ⟨rfl, rfl⟩
            go_wp2_with fail
            refine ((unhide ht) _ ((unhide bA) _)).mono ?_
            rintro e w1 ⟨rfl, b1⟩
            have bw1 := ((unhide bA) _).trans (b1.mono ((unhide bA) _).size)
            have c2 := b1.alloc b1.size (.cells #[.int .i64 t.k, .int .i64 t.ln, .int .i64 t.co, .int .i64 t.fr, .int .i64 t.to, .string t.tx, .string t.va] 65)
            have bw2 := ((unhide bA) _).trans (c2.mono ((unhide bA) _).size)
            go_wp2_with fail
            refine ((unhide hip) bDol _ bw2).mono ?_
            rintro e w3 ⟨rfl, b3⟩
            rw [hP1]
            have c3 := c2.trans (b3.mono c2.size)
            have bw3 := ((unhide bA) _).trans (c3.mono ((unhide bA) _).size)
            go_wp2_with fail
            refine ((unhide hip) bLb _ bw3).mono ?_
            rintro e w4 ⟨rfl, b4⟩
            rw [hP2]
            have c4 := c3.trans (b4.mono c3.size)
            have bw4 := ((unhide bA) _).trans (c4.mono ((unhide bA) _).size)
            go_wp2_with fail
            refine ((unhide hip) bLc _ bw4).mono ?_
            rintro e w5 ⟨rfl, b5⟩
            rw [hP3]
            have c5 := c4.trans (b5.mono c4.size)
            have bw5 := ((unhide bA) _).trans (c5.mono ((unhide bA) _).size)
            go_wp2_with fail
            refine ((unhide hob) _ bw5).mono ?_
            rintro e w9 ⟨cs, F, rfl, hpo, hc9, hk9⟩
            obtain ⟨kk, tt, bl, ai, ni, ci, af, nf, cf, ln, co, rfl⟩ := hpo.shape
            have hk09 := (Kp.of c5).trans hk9
            have hR9 := (unhide hZ) _ w9 hk09
            have HT := hide (dt.there_cells hR9 (o := 0) (n := 7) (by decide))
            have HK := hide ((Kp.of ((unhide bA) _)).trans hk09)
            have HC := hide hc9
            have HP := hide hpo
            have hlo := hide (show w.heap.size < w5.heap.size from by have := c5.size; simp at this; omega)
            clear hvr hls hob hip hrf ht hd hk9 hk09 hc9 hZ bA hR9 hpo
            go_wp2_with (first
              | refine wpList_store_mid (by rfl) 30 _ _ (by rfl) w.heap.size 0 #[.int .i64 kk, .string tt, .bool bl, .slice ai ni ci, .slice af nf cf, .int .i64 ln, .int .i64 co] (by rfl) (by rfl) (unhide HT) infoLt (dt.one_cells (cs := [.int .i64 kk, .string tt, .bool bl, .slice ai ni ci, .slice af nf cf, .int .i64 ln, .int .i64 co]) (by rfl)) ?_)
            refine bodyPost_ret (rgn.result_row_tmp rfl _ _ w.heap.size 0 [.int .i64 kk, .string tt, .bool bl, .slice ai ni ci, .slice af nf cf, .int .i64 ln, .int .i64 co] _ rfl (World.rangeAt_setCells_same _ _ _ _ (unhide HT)) Try.underlying30 rfl infoLt) rfl ?_
            rw [unhide hs2]
            exact ⟨_, F, rfl, ⟨(unhide HP).shape, ow_out (unhide HP).own (fun hm => by have := ((unhide HP).rng _ hm).1; have := unhide hlo; omega) _ _, (unhide HP).nodup, fun b hb => ⟨by have := ((unhide HP).rng b hb).1; have := unhide hlo; omega, by rw [dt.size_setCells]; exact ((unhide HP).rng b hb).2⟩⟩, (unhide HC).out hne hnp _ _, (unhide HK).out (Nat.le_refl _) _ _⟩
        · have hs2 := hide (show litS L true c = listS L c from by rw [unhide hS2, if_neg (fun e => by rw [hP1] at e; exact absurd e.1 (by simp)), if_pos hP2])
          clear hS2
          go_enter Try.func12, Try.ntmps12
          go_wp2_with fail
          refine ((unhide hd) _ ((unhide bA) _)).mono ?_
          rintro e w1 ⟨rfl, rfl⟩
          go_wp2_with fail
          refine ((unhide ht) _ ((unhide bA) _)).mono ?_
          rintro e w1 ⟨rfl, b1⟩
          have bw1 := ((unhide bA) _).trans (b1.mono ((unhide bA) _).size)
          have c2 := b1.alloc b1.size (.cells #[.int .i64 t.k, .int .i64 t.ln, .int .i64 t.co, .int .i64 t.fr, .int .i64 t.to, .string t.tx, .string t.va] 65)
          have bw2 := ((unhide bA) _).trans (c2.mono ((unhide bA) _).size)
          go_wp2_with fail
          refine ((unhide hip) bDol _ bw2).mono ?_
          rintro e w3 ⟨rfl, b3⟩
          rw [hP1]
          have c3 := c2.trans (b3.mono c2.size)
          have bw3 := ((unhide bA) _).trans (c3.mono ((unhide bA) _).size)
          go_wp2_with fail
          refine ((unhide hip) bLb _ bw3).mono ?_
          rintro e w4 ⟨rfl, b4⟩
          rw [hP2]
          have c4 := c3.trans (b4.mono c3.size)
          have bw4 := ((unhide bA) _).trans (c4.mono ((unhide bA) _).size)
          go_wp2_with fail
          refine ((unhide hls) _ bw4).mono ?_
          rintro e w9 ⟨cs, F, rfl, hpo, hc9, hk9⟩
          obtain ⟨kk, tt, bl, ai, ni, ci, af, nf, cf, ln, co, rfl⟩ := hpo.shape
          have hk09 := (Kp.of c4).trans hk9
          have hR9 := (unhide hZ) _ w9 hk09
          have HT := hide (dt.there_cells hR9 (o := 0) (n := 7) (by decide))
          have HK := hide ((Kp.of ((unhide bA) _)).trans hk09)
          have HC := hide hc9
          have HP := hide hpo
          have hlo := hide (show w.heap.size < w4.heap.size from by have := c4.size; simp at this; omega)
          clear hvr hls hob hip hrf ht hd hk9 hk09 hc9 hZ bA hR9 hpo
          go_wp2_with (first
            | refine wpList_store_mid (by rfl) 30 _ _ (by rfl) w.heap.size 0 #[.int .i64 kk, .string tt, .bool bl, .slice ai ni ci, .slice af nf cf, .int .i64 ln, .int .i64 co] (by rfl) (by rfl) (unhide HT) infoLt (dt.one_cells (cs := [.int .i64 kk, .string tt, .bool bl, .slice ai ni ci, .slice af nf cf, .int .i64 ln, .int .i64 co]) (by rfl)) ?_)
          refine bodyPost_ret (rgn.result_row_tmp rfl _ _ w.heap.size 0 [.int .i64 kk, .string tt, .bool bl, .slice ai ni ci, .slice af nf cf, .int .i64 ln, .int .i64 co] _ rfl (World.rangeAt_setCells_same _ _ _ _ (unhide HT)) Try.underlying30 rfl infoLt) rfl ?_
          rw [unhide hs2]
          exact ⟨_, F, rfl, ⟨(unhide HP).shape, ow_out (unhide HP).own (fun hm => by have := ((unhide HP).rng _ hm).1; have := unhide hlo; omega) _ _, (unhide HP).nodup, fun b hb => ⟨by have := ((unhide HP).rng b hb).1; have := unhide hlo; omega, by rw [dt.size_setCells]; exact ((unhide HP).rng b hb).2⟩⟩, (unhide HC).out hne hnp _ _, (unhide HK).out (Nat.le_refl _) _ _⟩
    · cases ct
      · have hs2 := hide (show litS L false c = varS c from by rw [unhide hS2, if_pos ⟨hP1, rfl⟩])
        clear hS2
        go_enter Try.func12, Try.ntmps12
        go_wp2_with fail
        refine ((unhide hd) _ ((unhide bA) _)).mono ?_
        rintro e w1 ⟨rfl, rfl⟩
        go_wp2_with fail
        refine ((unhide ht) _ ((unhide bA) _)).mono ?_
        rintro e w1 ⟨rfl, b1⟩
        have bw1 := ((unhide bA) _).trans (b1.mono ((unhide bA) _).size)
        have c2 := b1.alloc b1.size (.cells #[.int .i64 t.k, .int .i64 t.ln, .int .i64 t.co, .int .i64 t.fr, .int .i64 t.to, .string t.tx, .string t.va] 65)
        have bw2 := ((unhide bA) _).trans (c2.mono ((unhide bA) _).size)
        go_wp2_with fail
        refine ((unhide hip) bDol _ bw2).mono ?_
        rintro e w3 ⟨rfl, b3⟩
        rw [hP1]
        have c3 := c2.trans (b3.mono c2.size)
        have bw3 := ((unhide bA) _).trans (c3.mono ((unhide bA) _).size)
        go_wp2_with fail
        refine ((unhide hvr) _ bw3 ((unhide hmP) bDol hP1)).mono ?_
        rintro e w9 ⟨rfl, hc9, hk9⟩
        obtain ⟨d, v1, v2, v3, kk, tt, ln, co, v4, v5⟩ := var_post c
        have hk09 := (Kp.of c3).trans hk9
        have hR9 := (unhide hZ) _ w9 hk09
        have HT := hide (dt.there_cells hR9 (o := 0) (n := 7) (by decide))
        have HK := hide ((Kp.of ((unhide bA) _)).trans hk09)
        have HC := hide hc9
        have HV := hide (And.intro v1 (And.intro v2 (And.intro v3 v5)))
        rw [v4]
        unfold leafC
        clear hvr hls hob hip hrf ht hd hk9 hk09 hc9 hZ bA hR9 v1 v2 v3 v4 v5
        obtain ⟨R, hR⟩ : ∃ R, R = c.take.isN := ⟨_, rfl⟩
        rw [← hR] at HV ⊢
        clear hR
        go_wp2_with (first
          | refine wpList_store_mid (by rfl) 30 _ _ (by rfl) w.heap.size 0 #[.int .i64 kk, .string tt, .bool false, .slice none 0 0, .slice none 0 0, .int .i64 ln, .int .i64 co] (by rfl) (by rfl) (unhide HT) infoLt (dt.one_cells (cs := [.int .i64 kk, .string tt, .bool false, .slice none 0 0, .slice none 0 0, .int .i64 ln, .int .i64 co]) (by rfl)) ?_)
        refine bodyPost_ret (rgn.result_row_tmp rfl _ _ w.heap.size 0 [.int .i64 kk, .string tt, .bool false, .slice none 0 0, .slice none 0 0, .int .i64 ln, .int .i64 co] _ rfl (World.rangeAt_setCells_same _ _ _ _ (unhide HT)) Try.underlying30 rfl infoLt) rfl ?_
        rw [unhide hs2]
        obtain ⟨v1, v2, v3, v5⟩ := unhide HV
        rw [v1, v2, v3, v5]
        exact ⟨_, [], rfl, ⟨leaf_shape kk tt false ln co, leaf_ow _ kk tt false ln co, List.nodup_nil, by simp⟩, (unhide HC).out hne hnp _ _, (unhide HK).out (Nat.le_refl _) _ _⟩
      · cases hP2 : c.isP bLb
        · cases hP3 : c.isP bLc
          · have hs2 := hide (show litS L true c = (none, c.stop 70) from by rw [unhide hS2, if_neg (fun e => by exact absurd e.2 (by simp)), if_neg (by rw [hP2]; simp), if_neg (by rw [hP3]; simp)])
            clear hS2
            go_enter Try.func12, Try.ntmps12
            go_wp2_with fail
            refine ((unhide hd) _ ((unhide bA) _)).mono ?_
            rintro e w1 ⟨rfl, rfl⟩
            go_wp2_with fail
            refine ((unhide ht) _ ((unhide bA) _)).mono ?_
            rintro e w1 ⟨rfl, b1⟩
            have bw1 := ((unhide bA) _).trans (b1.mono ((unhide bA) _).size)
            have c2 := b1.alloc b1.size (.cells #[.int .i64 t.k, .int .i64 t.ln, .int .i64 t.co, .int .i64 t.fr, .int .i64 t.to, .string t.tx, .string t.va] 65)
            have bw2 := ((unhide bA) _).trans (c2.mono ((unhide bA) _).size)
            go_wp2_with fail
            refine ((unhide hip) bDol _ bw2).mono ?_
            rintro e w3 ⟨rfl, b3⟩
            rw [hP1]
            have c3 := c2.trans (b3.mono c2.size)
            have bw3 := ((unhide bA) _).trans (c3.mono ((unhide bA) _).size)
            go_wp2_with fail
            refine ((unhide hip) bLb _ bw3).mono ?_
            rintro e w4 ⟨rfl, b4⟩
            rw [hP2]
            have c4 := c3.trans (b4.mono c3.size)
            have bw4 := ((unhide bA) _).trans (c4.mono ((unhide bA) _).size)
            go_wp2_with fail
            refine ((unhide hip) bLc _ bw4).mono ?_
            rintro e w5 ⟨rfl, b5⟩
            rw [hP3]
            have c5 := c4.trans (b5.mono c4.size)
            have bw5 := ((unhide bA) _).trans (c5.mono ((unhide bA) _).size)
            go_wp2_with fail
            refine ((unhide hrf) _ bw5).mono ?_
            rintro e w9 ⟨rfl, hc9, hk9⟩
            have hk09 := (Kp.of c5).trans hk9
            have hR9 := (unhide hZ) _ w9 hk09
            have HT := hide (dt.there_cells hR9 (o := 0) (n := 7) (by decide))
            have HK := hide ((Kp.of ((unhide bA) _)).trans hk09)
            have HC := hide hc9
            clear hvr hls hob hip hrf ht hd hk9 hk09 hc9 hZ bA hR9
            go_wp2_with (first
              | refine wpList_store_mid (by rfl) 30 _ _ (by rfl) w.heap.size 0 #[.int .i64 0, .string ⟨#[]⟩, .bool false, .slice none 0 0, .slice none 0 0, .int .i64 0, .int .i64 0] (by rfl) (by rfl) (unhide HT) infoLt (dt.one_cells (cs := [.int .i64 0, .string ⟨#[]⟩, .bool false, .slice none 0 0, .slice none 0 0, .int .i64 0, .int .i64 0]) (by rfl)) ?_)
            refine bodyPost_ret (rgn.result_row_tmp rfl _ _ w.heap.size 0 [.int .i64 0, .string ⟨#[]⟩, .bool false, .slice none 0 0, .slice none 0 0, .int .i64 0, .int .i64 0] _ rfl (World.rangeAt_setCells_same _ _ _ _ (unhide HT)) Try.underlying30 rfl infoLt) rfl ?_
            rw [unhide hs2]
            exact ⟨_, [], rfl, ⟨leaf_shape 0 em false 0 0, leaf_ow _ 0 em false 0 0, List.nodup_nil, by simp⟩, (unhide HC).out hne hnp _ _, (unhide HK).out (Nat.le_refl _) _ _⟩
          · have hs2 := hide (show litS L true c = objS L c from by rw [unhide hS2, if_neg (fun e => by exact absurd e.2 (by simp)), if_neg (by rw [hP2]; simp), if_pos hP3])
            clear hS2
            go_enter Try.func12, Try.ntmps12
            go_wp2_with fail
            refine ((unhide hd) _ ((unhide bA) _)).mono ?_
            rintro e w1 ⟨rfl, rfl⟩
            go_wp2_with fail
            refine ((unhide ht) _ ((unhide bA) _)).mono ?_
            rintro e w1 ⟨rfl, b1⟩
            have bw1 := ((unhide bA) _).trans (b1.mono ((unhide bA) _).size)
            have c2 := b1.alloc b1.size (.cells #[.int .i64 t.k, .int .i64 t.ln, .int .i64 t.co, .int .i64 t.fr, .int .i64 t.to, .string t.tx, .string t.va] 65)
            have bw2 := ((unhide bA) _).trans (c2.mono ((unhide bA) _).size)
            go_wp2_with fail
            refine ((unhide hip) bDol _ bw2).mono ?_
            rintro e w3 ⟨rfl, b3⟩
            rw [hP1]
            have c3 := c2.trans (b3.mono c2.size)
            have bw3 := ((unhide bA) _).trans (c3.mono ((unhide bA) _).size)
            go_wp2_with fail
            refine ((unhide hip) bLb _ bw3).mono ?_
            rintro e w4 ⟨rfl, b4⟩
            rw [hP2]
            have c4 := c3.trans (b4.mono c3.size)
            have bw4 := ((unhide bA) _).trans (c4.mono ((unhide bA) _).size)
            go_wp2_with fail
            refine ((unhide hip) bLc _ bw4).mono ?_
            rintro e w5 ⟨rfl, b5⟩
            rw [hP3]
            have c5 := c4.trans (b5.mono c4.size)
            have bw5 := ((unhide bA) _).trans (c5.mono ((unhide bA) _).size)
            go_wp2_with fail
            refine ((unhide hob) _ bw5).mono ?_
            rintro e w9 ⟨cs, F, rfl, hpo, hc9, hk9⟩
            obtain ⟨kk, tt, bl, ai, ni, ci, af, nf, cf, ln, co, rfl⟩ := hpo.shape
            have hk09 := (Kp.of c5).trans hk9
            have hR9 := (unhide hZ) _ w9 hk09
            have HT := hide (dt.there_cells hR9 (o := 0) (n := 7) (by decide))
            have HK := hide ((Kp.of ((unhide bA) _)).trans hk09)
            have HC := hide hc9
            have HP := hide hpo
            have hlo := hide (show w.heap.size < w5.heap.size from by have := c5.size; simp at this; omega)
            clear hvr hls hob hip hrf ht hd hk9 hk09 hc9 hZ bA hR9 hpo
            go_wp2_with (first
              | refine wpList_store_mid (by rfl) 30 _ _ (by rfl) w.heap.size 0 #[.int .i64 kk, .string tt, .bool bl, .slice ai ni ci, .slice af nf cf, .int .i64 ln, .int .i64 co] (by rfl) (by rfl) (unhide HT) infoLt (dt.one_cells (cs := [.int .i64 kk, .string tt, .bool bl, .slice ai ni ci, .slice af nf cf, .int .i64 ln, .int .i64 co]) (by rfl)) ?_)
            refine bodyPost_ret (rgn.result_row_tmp rfl _ _ w.heap.size 0 [.int .i64 kk, .string tt, .bool bl, .slice ai ni ci, .slice af nf cf, .int .i64 ln, .int .i64 co] _ rfl (World.rangeAt_setCells_same _ _ _ _ (unhide HT)) Try.underlying30 rfl infoLt) rfl ?_
            rw [unhide hs2]
            exact ⟨_, F, rfl, ⟨(unhide HP).shape, ow_out (unhide HP).own (fun hm => by have := ((unhide HP).rng _ hm).1; have := unhide hlo; omega) _ _, (unhide HP).nodup, fun b hb => ⟨by have := ((unhide HP).rng b hb).1; have := unhide hlo; omega, by rw [dt.size_setCells]; exact ((unhide HP).rng b hb).2⟩⟩, (unhide HC).out hne hnp _ _, (unhide HK).out (Nat.le_refl _) _ _⟩
        · have hs2 := hide (show litS L true c = listS L c from by rw [unhide hS2, if_neg (fun e => by exact absurd e.2 (by simp)), if_pos hP2])
          clear hS2
          go_enter Try.func12, Try.ntmps12
          go_wp2_with fail
          refine ((unhide hd) _ ((unhide bA) _)).mono ?_
          rintro e w1 ⟨rfl, rfl⟩
          go_wp2_with fail
          refine ((unhide ht) _ ((unhide bA) _)).mono ?_
          rintro e w1 ⟨rfl, b1⟩
          have bw1 := ((unhide bA) _).trans (b1.mono ((unhide bA) _).size)
          have c2 := b1.alloc b1.size (.cells #[.int .i64 t.k, .int .i64 t.ln, .int .i64 t.co, .int .i64 t.fr, .int .i64 t.to, .string t.tx, .string t.va] 65)
          have bw2 := ((unhide bA) _).trans (c2.mono ((unhide bA) _).size)
          go_wp2_with fail
          refine ((unhide hip) bDol _ bw2).mono ?_
          rintro e w3 ⟨rfl, b3⟩
          rw [hP1]
          have c3 := c2.trans (b3.mono c2.size)
          have bw3 := ((unhide bA) _).trans (c3.mono ((unhide bA) _).size)
          go_wp2_with fail
          refine ((unhide hip) bLb _ bw3).mono ?_
          rintro e w4 ⟨rfl, b4⟩
          rw [hP2]
          have c4 := c3.trans (b4.mono c3.size)
          have bw4 := ((unhide bA) _).trans (c4.mono ((unhide bA) _).size)
          go_wp2_with fail
          refine ((unhide hls) _ bw4).mono ?_
          rintro e w9 ⟨cs, F, rfl, hpo, hc9, hk9⟩
          obtain ⟨kk, tt, bl, ai, ni, ci, af, nf, cf, ln, co, rfl⟩ := hpo.shape
          have hk09 := (Kp.of c4).trans hk9
          have hR9 := (unhide hZ) _ w9 hk09
          have HT := hide (dt.there_cells hR9 (o := 0) (n := 7) (by decide))
          have HK := hide ((Kp.of ((unhide bA) _)).trans hk09)
          have HC := hide hc9
          have HP := hide hpo
          have hlo := hide (show w.heap.size < w4.heap.size from by have := c4.size; simp at this; omega)
          clear hvr hls hob hip hrf ht hd hk9 hk09 hc9 hZ bA hR9 hpo
          go_wp2_with (first
            | refine wpList_store_mid (by rfl) 30 _ _ (by rfl) w.heap.size 0 #[.int .i64 kk, .string tt, .bool bl, .slice ai ni ci, .slice af nf cf, .int .i64 ln, .int .i64 co] (by rfl) (by rfl) (unhide HT) infoLt (dt.one_cells (cs := [.int .i64 kk, .string tt, .bool bl, .slice ai ni ci, .slice af nf cf, .int .i64 ln, .int .i64 co]) (by rfl)) ?_)
          refine bodyPost_ret (rgn.result_row_tmp rfl _ _ w.heap.size 0 [.int .i64 kk, .string tt, .bool bl, .slice ai ni ci, .slice af nf cf, .int .i64 ln, .int .i64 co] _ rfl (World.rangeAt_setCells_same _ _ _ _ (unhide HT)) Try.underlying30 rfl infoLt) rfl ?_
          rw [unhide hs2]
          exact ⟨_, F, rfl, ⟨(unhide HP).shape, ow_out (unhide HP).own (fun hm => by have := ((unhide HP).rng _ hm).1; have := unhide hlo; omega) _ _, (unhide HP).nodup, fun b hb => ⟨by have := ((unhide HP).rng b hb).1; have := unhide hlo; omega, by rw [dt.size_setCells]; exact ((unhide HP).rng b hb).2⟩⟩, (unhide HC).out hne hnp _ _, (unhide HK).out (Nat.le_refl _) _ _⟩
  · have ekd : (c.kd != 0) = true := by simpa using hkd
    have hs2 := hide (show litS L ct c = (none, c) from by unfold litS; rw [if_pos hkd])
    rw [ekd] at hd
    have HC := hide (h.below ((unhide bA) (.cells #[.int .i64 0, .string ⟨#[]⟩, .bool false, .slice none 0 0, .slice none 0 0, .int .i64 0, .int .i64 0] 30)))
    clear h hls' hob' hkd ekd ht hip hrf hls hob hZ
    unfold ptr at hd ⊢
    go_enter Try.func12, Try.ntmps12
    go_wp2_with fail
    refine ((unhide hd) _ ((unhide bA) _)).mono ?_
    rintro e w1 ⟨rfl, rfl⟩
    clear hd
    go_wp2_with fail
    refine bodyPost_ret (rgn.result_row_tmp rfl _ _ w.heap.size 0 [.int .i64 0, .string ⟨#[]⟩, .bool false, .slice none 0 0, .slice none 0 0, .int .i64 0, .int .i64 0] _ rfl (dt.range_cells (heap_alloc_new w _) 0 _ (fun j u hu => by rw [Nat.zero_add]; simpa using hu)) Try.underlying30 rfl infoLt) rfl ?_
    rw [unhide hs2]
    exact ⟨_, [], rfl, ⟨leaf_shape 0 em false 0 0, leaf_ow _ 0 em false 0 0, List.nodup_nil, by simp⟩, unhide HC, Kp.of ((unhide bA) _)⟩
end Go.Proofs.Ytgphiollpbahgaa.cu
namespace Go.Proofs.Ytgphiollpbahgaa.cu
open Go.ChangeShapes Go.WideShapes Go.ChangeAt Go.RowKit
open ints (hide unhide)
open dt (Dt Kp RowAt Ow Grow)
open mem (Row)
set_option linter.unusedVariables false
set_option linter.unusedSimpArgs false
theorem litF_dead (ct : Bool) : ∀ (f : Nat) (c : Cu), c.kd ≠ 0 → (litF ct f c).1 = none
  | 0, c, h => rfl
  | f + 1, c, h => by
    show (litS (litF ct f) ct c).1 = none
    unfold litS
    rw [if_pos h]
theorem dead_stop {c : Cu} (k : Int) (h : c.kd ≠ 0) : c.stop k = c := if_neg h
theorem name_dead (ct : Bool) (f : Nat) (c : Cu) (h : (litF ct f (c.name.want bCol)).1.isSome = true) : c.isN = true := by
  cases hN : c.isN
  · exfalso
    have h1 : c.name = c.stop 70 := by unfold Cu.name; rw [hN]; rfl
    have h2 : (c.stop 70).kd ≠ 0 := by
      unfold Cu.stop
      split
      · show (70 : Int) ≠ 0; decide
      · assumption
    have h3 : (c.stop 70).want bCol = c.stop 70 := by
      unfold Cu.want
      have : (c.stop 70).isP bCol = false := by unfold Cu.isP; simp [h2]
      rw [this]
      exact dead_stop 70 h2
    rw [h1, h3, litF_dead ct f _ h2] at h
    cases h
  · rfl
theorem litF_ok (ct : Bool) : ∀ (f : Nat) (c : Cu), c.Ok → c.ts.length ≤ 1099511627777 → c.ts.length ≤ f + c.ix → LitAt (litF ct f) ct c
  | 0, c, hc, hl, hf => by have := hc.lt; omega
  | f + 1, c, hc, hl, hf =>
    lit_ok (litF ct f) ct c hc
      (list_ok (litF ct f) ct c hc hl (litF_goes ct f) (fun cc h1 h2 h3 => litF_ok ct f cc h1 (by rw [h2]; exact hl) (by rw [h2]; omega)))
      (obj_ok (litF ct f) ct c hc hl (litF_goes ct f) (fun cc h1 h2 h3 => field_ok _ ct cc (arg_ok (litF ct f) ct cc h1
        (by
          have s1 := name_stp h1
          have s2 := want_stp s1.ok bCol
          have s := s1.trans s2
          exact litF_ok ct f (cc.name.want bCol) s.ok (by rw [s.ts, h2]; exact hl) (by rw [s.ts, h2]; have := s.ix; omega))
        (name_dead ct f cc))))
def readL (l : List Int) (ct : Bool) (d : Int) : Option Dt × Cu :=
  if (litF ct (lx.tks l 0).length (newS l d)).1.isSome then (if (litF ct (lx.tks l 0).length (newS l d)).2.finB then (litF ct (lx.tks l 0).length (newS l d)).1 else none, (litF ct (lx.tks l 0).length (newS l d)).2.fin) else (none, (litF ct (lx.tks l 0).length (newS l d)).2)
set_option maxRecDepth 4000 in
set_option maxHeartbeats 2000000 in
theorem readLit_ok (a : Option Addr) (n c : Nat) (l : List Int) (ct : Bool) (d : Int) (w : World) (h : Row .u8 w a n c l) (hn : n ≤ 1099511627776) (hp : lx.Plain l) (hd : (Lit.int .i64 d).wf = true) :
    Calls Try.prog 6 #[.slice a n c, .bool ct, .int .i64 d] w fun e w' => ∃ cs F fs, e = .returned (.tuple #[.agg cs.toArray, .agg fs.toArray]) ∧ LitPost ((readL l ct d).1.getD zeroD) w w' cs F ∧ FltAt w.heap.size w' (readL l ct d).2 fs ∧ Below w.heap.size w w' := by
  have hN := hide (fun W (bb : Below w.heap.size w W) => new_ok a n c l d W (h.below bb) hn hp hd)
  have hok := newS_ok l d
  have hlen : (newS l d).ts.length ≤ 1099511627777 := by
    have := tksF_len l (l.length + 1) 0 (Nat.zero_le _)
    show (lx.tksF l (l.length + 1) 0).length ≤ _
    rw [h.len] at this ⊢
    omega
  have hT := hide (litF_ok ct (lx.tks l 0).length (newS l d) hok hlen (Nat.le_add_right _ _))
  have hg := hide (litF_goes ct (lx.tks l 0).length (newS l d) hok).1
  unfold readL
  obtain ⟨U, hU⟩ : ∃ U, U = litF ct (lx.tks l 0).length (newS l d) := ⟨_, rfl⟩
  unfold LitAt at hT
  rw [← hU] at hT hg ⊢
  obtain ⟨c0, hc0⟩ : ∃ c0, c0 = newS l d := ⟨_, rfl⟩
  rw [← hc0] at hN hT hg
  clear h hU hok hlen hc0
  obtain ⟨r, C⟩ := U
  go_enter Try.func6, Try.ntmps6
  go_wp2_with fail
  have bW0 : Below w.heap.size w ((w.alloc (.cells #[Value.int .i64 0, .string { data := #[] }, .bool false, .slice none 0 0, .slice none 0 0, .int .i64 0, .int .i64 0] 30)).alloc (.cells #[Value.int .i64 0, .slice none 0 0, .slice none 0 0] 35)) := ((Below.refl _ _).alloc (Nat.le_refl _) _).alloc (by simp) _
  have hR1 : ((w.alloc (.cells #[Value.int .i64 0, .string { data := #[] }, .bool false, .slice none 0 0, .slice none 0 0, .int .i64 0, .int .i64 0] 30)).alloc (.cells #[Value.int .i64 0, .slice none 0 0, .slice none 0 0] 35)).heap[w.heap.size]? = some (.cells #[Value.int .i64 0, .string { data := #[] }, .bool false, .slice none 0 0, .slice none 0 0, .int .i64 0, .int .i64 0] 30 (0, 0)) := (Below.heap_alloc _ _ w.heap.size (by simp)).trans (heap_alloc_new w _)
  have hR2 : ((w.alloc (.cells #[Value.int .i64 0, .string { data := #[] }, .bool false, .slice none 0 0, .slice none 0 0, .int .i64 0, .int .i64 0] 30)).alloc (.cells #[Value.int .i64 0, .slice none 0 0, .slice none 0 0] 35)).heap[w.heap.size + 1]? = some (.cells #[Value.int .i64 0, .slice none 0 0, .slice none 0 0] 35 (0, 0)) := by
    have := heap_alloc_new (w.alloc (.cells #[Value.int .i64 0, .string { data := #[] }, .bool false, .slice none 0 0, .slice none 0 0, .int .i64 0, .int .i64 0] 30)) (.cells #[Value.int .i64 0, .slice none 0 0, .slice none 0 0] 35)
    simpa using this
  have hz0 : w.heap.size + 1 < ((w.alloc (.cells #[Value.int .i64 0, .string { data := #[] }, .bool false, .slice none 0 0, .slice none 0 0, .int .i64 0, .int .i64 0] 30)).alloc (.cells #[Value.int .i64 0, .slice none 0 0, .slice none 0 0] 35)).heap.size := by simp
  obtain ⟨W0, hW0⟩ : ∃ W0, W0 = (w.alloc (.cells #[Value.int .i64 0, .string { data := #[] }, .bool false, .slice none 0 0, .slice none 0 0, .int .i64 0, .int .i64 0] 30)).alloc (.cells #[Value.int .i64 0, .slice none 0 0, .slice none 0 0] 35) := ⟨_, rfl⟩
  rw [← hW0] at bW0 hR1 hR2 hz0 ⊢
  clear hW0
  refine ((unhide hN) W0 bW0).mono ?_
  rintro e w1 ⟨B, p, rfl, hB, hp0, hc1, b1⟩
  have hTB := hide ((unhide hT) B p)
  have hend := hide (fun W (hc : CurAt W B p C) => end_ok B p C W hc)
  have htold := hide (fun W (D : Cu) (hc : CurAt W B p D) => told_ok B p D W hc)
  clear hN hT
  unfold ptr at hTB hend htold ⊢
  go_wp2_with fail
  refine ((unhide hTB) w1 hc1).mono ?_
  rintro e w2 ⟨cs, F, rfl, hpo, hc2, hk2⟩
  obtain ⟨kk, tt, bl, ai, ni, ci, af, nf, cf, ln, co, rfl⟩ := hpo.shape
  have HP := hide hpo
  have hrF : ∀ b ∈ F, W0.heap.size ≤ b ∧ b < w2.heap.size := fun b hb => ⟨Nat.le_trans b1.size (hpo.rng b hb).1, (hpo.rng b hb).2⟩
  clear hpo
  have hB1 := hc1.lt
  have b02 : Below W0.heap.size W0 w2 := b1.trans (hk2.below hB b1.size)
  have HC2 := hide hc2
  clear hTB hc1 hc2 hk2 b1
  have bA2 := hide (fun o => show Below w2.heap.size w2 (w2.alloc o) from (Below.refl _ _).alloc (Nat.le_refl _) _)
  cases r with
  | none =>
    go_wp2_with fail
    have bT := b02.alloc b02.size (.cells #[.int .i64 kk, .string tt, .bool bl, .slice ai ni ci, .slice af nf cf, .int .i64 ln, .int .i64 co] 30)
    refine ((unhide htold) _ C ((unhide HC2).below ((unhide bA2) _))).mono ?_
    rintro e w5 ⟨fs, rfl, hflt, b5⟩
    have b05 : Below W0.heap.size W0 w5 := bT.trans (b5.mono bT.size)
    have hne12 : w.heap.size ≠ w.heap.size + 1 := by omega
    have HT1 := hide (show w5.there w.heap.size 0 7 from dt.there_cells ((b05.block w.heap.size (by omega)).trans hR1) (by decide))
    have HT2 := hide (show w5.there (w.heap.size + 1) 0 fs.length from by rw [hflt.three.1]; exact dt.there_cells ((b05.block (w.heap.size + 1) hz0).trans hR2) (by decide))
    have HX0 := res2 hne12 [.int .i64 0, .string ⟨#[]⟩, .bool false, .slice none 0 0, .slice none 0 0, .int .i64 0, .int .i64 0] fs (unhide HT1) (unhide HT2)
    obtain ⟨W6, e6⟩ : ∃ W6, W6 = w5.setCells w.heap.size 0 (#[.int .i64 0, .string ⟨#[]⟩, .bool false, .slice none 0 0, .slice none 0 0, .int .i64 0, .int .i64 0] : Array Value).toList := ⟨_, rfl⟩
    have HX := hide (show W6.there (w.heap.size + 1) 0 _ ∧ (W6.setCells (w.heap.size + 1) 0 fs).rangeAt w.heap.size 0 [.int .i64 0, .string ⟨#[]⟩, .bool false, .slice none 0 0, .slice none 0 0, .int .i64 0, .int .i64 0] ∧ (W6.setCells (w.heap.size + 1) 0 fs).rangeAt (w.heap.size + 1) 0 fs from by rw [e6]; exact HX0)
    have E6 := hide e6
    clear HX0 e6
    have HI := hide (show (Try.prog.info? 35).map (·.size) = some fs.length from by rw [hflt.three.1]; exact infoFl)
    have HO := hide (dt.one_cells hflt.three.2)
    have HF := hide hflt
    have hbw := hide (bW0.trans (b05.mono bW0.size))
    have hlo := hide (show w.heap.size + 1 < _ ∧ w.heap.size < _ from And.intro (Nat.lt_of_lt_of_le hz0 bT.size) (Nat.lt_of_lt_of_le (Nat.lt_of_succ_lt hz0) bT.size))
    clear b05 b5 htold hflt
    go_wp2_with (first
      | (refine wpList_store_mid (by rfl) 30 _ _ (by rfl) w.heap.size 0 #[.int .i64 0, .string ⟨#[]⟩, .bool false, .slice none 0 0, .slice none 0 0, .int .i64 0, .int .i64 0] (by rfl) (by rfl) (unhide HT1) infoLt (dt.one_cells (cs := [.int .i64 0, .string ⟨#[]⟩, .bool false, .slice none 0 0, .slice none 0 0, .int .i64 0, .int .i64 0]) (by rfl)) ?_; rw [← unhide E6])
      | refine wpList_store_mid (by rfl) 35 _ _ (by rfl) (w.heap.size + 1) 0 fs.toArray (by rfl) (by rfl) (by have := (unhide HX).1; simpa using this) (by have := unhide HI; simpa using this) (unhide HO) ?_)
    refine bodyPost_ret (result_rows2 rfl _ _ w.heap.size 0 [.int .i64 0, .string ⟨#[]⟩, .bool false, .slice none 0 0, .slice none 0 0, .int .i64 0, .int .i64 0] _ rfl (unhide HX).2.1 Try.underlying30 rfl infoLt (w.heap.size + 1) 0 fs _ rfl (unhide HX).2.2 Try.underlying35 rfl (unhide HI)) rfl ?_
    have e6 := unhide E6
    subst e6
    refine ⟨_, [], _, rfl, ⟨leaf_shape 0 em false 0 0, leaf_ow _ 0 em false 0 0, List.nodup_nil, by simp⟩, ?_, dt.below_setCells _ _ _ _ (dt.below_setCells _ _ _ _ (unhide hbw) (Nat.le_refl _)) (Nat.le_add_right _ 1)⟩
    exact (((unhide HF).out (unhide hlo).2 _ _).out (unhide hlo).1 _ _).mono (Nat.le_of_lt (unhide hlo).2)
  | some it =>
    cases hF : C.finB
    · rw [hF] at hend
      go_wp2_with fail
      refine ((unhide hend) _ ((unhide HC2).below ((unhide bA2) _))).mono ?_
      rintro e w3 ⟨rfl, hc3, hk3⟩
      have bT : Below W0.heap.size W0 w3 := (b02.alloc b02.size _).trans (hk3.below hB (Nat.le_trans b02.size ((unhide bA2) _).size))
      go_wp2_with fail
      refine ((unhide htold) _ C.fin hc3).mono ?_
      rintro e w5 ⟨fs, rfl, hflt, b5⟩
      have b05 : Below W0.heap.size W0 w5 := bT.trans (b5.mono bT.size)
      have hne12 : w.heap.size ≠ w.heap.size + 1 := by omega
      have HT1 := hide (show w5.there w.heap.size 0 7 from dt.there_cells ((b05.block w.heap.size (by omega)).trans hR1) (by decide))
      have HT2 := hide (show w5.there (w.heap.size + 1) 0 fs.length from by rw [hflt.three.1]; exact dt.there_cells ((b05.block (w.heap.size + 1) hz0).trans hR2) (by decide))
      have HX0 := res2 hne12 [.int .i64 0, .string ⟨#[]⟩, .bool false, .slice none 0 0, .slice none 0 0, .int .i64 0, .int .i64 0] fs (unhide HT1) (unhide HT2)
      obtain ⟨W6, e6⟩ : ∃ W6, W6 = w5.setCells w.heap.size 0 (#[.int .i64 0, .string ⟨#[]⟩, .bool false, .slice none 0 0, .slice none 0 0, .int .i64 0, .int .i64 0] : Array Value).toList := ⟨_, rfl⟩
      have HX := hide (show W6.there (w.heap.size + 1) 0 _ ∧ (W6.setCells (w.heap.size + 1) 0 fs).rangeAt w.heap.size 0 [.int .i64 0, .string ⟨#[]⟩, .bool false, .slice none 0 0, .slice none 0 0, .int .i64 0, .int .i64 0] ∧ (W6.setCells (w.heap.size + 1) 0 fs).rangeAt (w.heap.size + 1) 0 fs from by rw [e6]; exact HX0)
      have E6 := hide e6
      clear HX0 e6
      have HI := hide (show (Try.prog.info? 35).map (·.size) = some fs.length from by rw [hflt.three.1]; exact infoFl)
      have HO := hide (dt.one_cells hflt.three.2)
      have HF := hide hflt
      have hbw := hide (bW0.trans (b05.mono bW0.size))
      have hlo := hide (show w.heap.size + 1 < _ ∧ w.heap.size < _ from And.intro (Nat.lt_of_lt_of_le hz0 bT.size) (Nat.lt_of_lt_of_le (Nat.lt_of_succ_lt hz0) bT.size))
      clear b05 b5 htold hflt
      go_wp2_with (first
        | (refine wpList_store_mid (by rfl) 30 _ _ (by rfl) w.heap.size 0 #[.int .i64 0, .string ⟨#[]⟩, .bool false, .slice none 0 0, .slice none 0 0, .int .i64 0, .int .i64 0] (by rfl) (by rfl) (unhide HT1) infoLt (dt.one_cells (cs := [.int .i64 0, .string ⟨#[]⟩, .bool false, .slice none 0 0, .slice none 0 0, .int .i64 0, .int .i64 0]) (by rfl)) ?_; rw [← unhide E6])
        | refine wpList_store_mid (by rfl) 35 _ _ (by rfl) (w.heap.size + 1) 0 fs.toArray (by rfl) (by rfl) (by have := (unhide HX).1; simpa using this) (by have := unhide HI; simpa using this) (unhide HO) ?_)
      refine bodyPost_ret (result_rows2 rfl _ _ w.heap.size 0 [.int .i64 0, .string ⟨#[]⟩, .bool false, .slice none 0 0, .slice none 0 0, .int .i64 0, .int .i64 0] _ rfl (unhide HX).2.1 Try.underlying30 rfl infoLt (w.heap.size + 1) 0 fs _ rfl (unhide HX).2.2 Try.underlying35 rfl (unhide HI)) rfl ?_
      have e6 := unhide E6
      subst e6
      refine ⟨_, [], _, rfl, ⟨leaf_shape 0 em false 0 0, leaf_ow _ 0 em false 0 0, List.nodup_nil, by simp⟩, ?_, dt.below_setCells _ _ _ _ (dt.below_setCells _ _ _ _ (unhide hbw) (Nat.le_refl _)) (Nat.le_add_right _ 1)⟩
      exact (((unhide HF).out (unhide hlo).2 _ _).out (unhide hlo).1 _ _).mono (Nat.le_of_lt (unhide hlo).2)
    · rw [hF] at hend
      go_wp2_with fail
      refine ((unhide hend) _ ((unhide HC2).below ((unhide bA2) _))).mono ?_
      rintro e w3 ⟨rfl, hc3, hk3⟩
      have hI3 := (hk3.block w2.heap.size (by simp) (by have := (unhide HC2).lt; omega)).trans (heap_alloc_new w2 _)
      have b03 : Below W0.heap.size W0 w3 := (b02.alloc b02.size _).trans (hk3.below hB (Nat.le_trans b02.size ((unhide bA2) _).size))
      have i0 : w3.cell? ⟨w2.heap.size, 0, none⟩ = some (.int .i64 kk) := (dt.cell_cells hI3 0).trans rfl
      have i1 : w3.cell? ⟨w2.heap.size, 1, none⟩ = some (.string tt) := (dt.cell_cells hI3 1).trans rfl
      have i2 : w3.cell? ⟨w2.heap.size, 2, none⟩ = some (.bool bl) := (dt.cell_cells hI3 2).trans rfl
      have i3 : w3.cell? ⟨w2.heap.size, 3, none⟩ = some (.slice ai ni ci) := (dt.cell_cells hI3 3).trans rfl
      have i4 : w3.cell? ⟨w2.heap.size, 4, none⟩ = some (.slice af nf cf) := (dt.cell_cells hI3 4).trans rfl
      have i5 : w3.cell? ⟨w2.heap.size, 5, none⟩ = some (.int .i64 ln) := (dt.cell_cells hI3 5).trans rfl
      have i6 : w3.cell? ⟨w2.heap.size, 6, none⟩ = some (.int .i64 co) := (dt.cell_cells hI3 6).trans rfl
      have HW3 := hide (show Ow w3 (it) [.int .i64 kk, .string tt, .bool bl, .slice ai ni ci, .slice af nf cf, .int .i64 ln, .int .i64 co] F from ow_kp (ow_below (unhide HP).own ((unhide bA2) _) (fun b hb => (hrF b hb).2)) hk3 (Nat.lt_of_lt_of_le (Nat.lt_succ_self B) (Nat.le_refl _)) (fun b hb => ⟨by have h1 := (unhide HP).rng b hb; have h2 := hB1; omega, by have := (hrF b hb).2; simp; omega⟩))
      have hz23 := hide (show w2.heap.size ≤ w3.heap.size from by have := hk3.size; simp at this; omega)
      have hne12 : w.heap.size ≠ w.heap.size + 1 := by omega
      have HT1 := hide (show w3.there w.heap.size 0 7 from dt.there_cells ((b03.block w.heap.size (by omega)).trans hR1) (by decide))
      have HT2 := hide (show w3.there (w.heap.size + 1) 0 3 from dt.there_cells ((b03.block (w.heap.size + 1) hz0).trans hR2) (by decide))
      have HX0 := res2 hne12 [.int .i64 kk, .string tt, .bool bl, .slice ai ni ci, .slice af nf cf, .int .i64 ln, .int .i64 co] [.int .i64 0, .slice none 0 0, .slice none 0 0] (unhide HT1) (unhide HT2)
      obtain ⟨W6, e6⟩ : ∃ W6, W6 = w3.setCells w.heap.size 0 (#[.int .i64 kk, .string tt, .bool bl, .slice ai ni ci, .slice af nf cf, .int .i64 ln, .int .i64 co] : Array Value).toList := ⟨_, rfl⟩
      have HX := hide (show W6.there (w.heap.size + 1) 0 _ ∧ (W6.setCells (w.heap.size + 1) 0 [.int .i64 0, .slice none 0 0, .slice none 0 0]).rangeAt w.heap.size 0 [.int .i64 kk, .string tt, .bool bl, .slice ai ni ci, .slice af nf cf, .int .i64 ln, .int .i64 co] ∧ (W6.setCells (w.heap.size + 1) 0 [.int .i64 0, .slice none 0 0, .slice none 0 0]).rangeAt (w.heap.size + 1) 0 [.int .i64 0, .slice none 0 0, .slice none 0 0] from by rw [e6]; exact HX0)
      have E6 := hide e6
      clear HX0 e6
      have hfin := hide (show C.fin = C ∧ C.kd = 0 from ⟨by unfold Cu.fin; rw [hF]; rfl, (of_decide_eq_true hF).1⟩)
      have hbw := hide (bW0.trans (b03.mono bW0.size))
      clear hI3 b03 hk3 hc3 hend htold b02 bA2
      go_wp2_with (first
        | (refine wpList_store_mid (by rfl) 30 _ _ (by rfl) w.heap.size 0 #[.int .i64 kk, .string tt, .bool bl, .slice ai ni ci, .slice af nf cf, .int .i64 ln, .int .i64 co] (by rfl) (by rfl) (unhide HT1) infoLt (dt.one_cells (cs := [.int .i64 kk, .string tt, .bool bl, .slice ai ni ci, .slice af nf cf, .int .i64 ln, .int .i64 co]) (by rfl)) ?_; rw [← unhide E6])
        | refine wpList_store_mid (by rfl) 35 _ _ (by rfl) (w.heap.size + 1) 0 #[.int .i64 0, .slice none 0 0, .slice none 0 0] (by rfl) (by rfl) (unhide HX).1 infoFl (dt.one_cells (cs := [.int .i64 0, .slice none 0 0, .slice none 0 0]) (by rfl)) ?_)
      refine bodyPost_ret (result_rows2 rfl _ _ w.heap.size 0 [.int .i64 kk, .string tt, .bool bl, .slice ai ni ci, .slice af nf cf, .int .i64 ln, .int .i64 co] _ rfl (unhide HX).2.1 Try.underlying30 rfl infoLt (w.heap.size + 1) 0 [.int .i64 0, .slice none 0 0, .slice none 0 0] _ rfl (unhide HX).2.2 Try.underlying35 rfl infoFl) rfl ?_
      have e6 := unhide E6
      subst e6
      refine ⟨_, F, _, rfl, ⟨⟨kk, tt, bl, ai, ni, ci, af, nf, cf, ln, co, rfl⟩, ow_out (ow_out (unhide HW3) (fun hm => by have := (hrF _ hm).1; omega) _ _) (fun hm => by have := (hrF _ hm).1; omega) _ _, (unhide HP).nodup, fun b hb => ⟨by have := (hrF b hb).1; have := bW0.size; omega, by rw [dt.size_setCells, dt.size_setCells]; have := (hrF b hb).2; have := unhide hz23; omega⟩⟩, ?_, dt.below_setCells _ _ _ _ (dt.below_setCells _ _ _ _ (unhide hbw) (Nat.le_refl _)) (Nat.le_add_right _ 1)⟩
      unfold FltAt
      show (if C.fin.kd = 0 then _ else _)
      rw [(unhide hfin).1, if_pos (unhide hfin).2]
end Go.Proofs.Ytgphiollpbahgaa.cu
namespace Go.Proofs.Ytgphiollpbahgaa.mem
open Go.ChangeShapes Go.WideShapes Go.ChangeAt Go.RowKit
open ints (hide unhide)
set_option linter.unusedVariables false

theorem size32 : (Try.prog.info? 21).map (·.size) = some 1 := by kernel_rfl
theorem splice_all {α : Type} (L cs : List α) (h : L.length = cs.length) : splice L 0 cs = cs := by
  unfold splice
  rw [Nat.zero_add, List.drop_eq_nil_of_le (by omega)]
  simp
theorem own_block {w : World} {base g n cap : Nat} {e : TypeId} {xs : List Value} (h : w.ownsRow base e 1 (.slice (some ⟨g, 0, none⟩) n cap) n xs) : ∃ cur : Array Value, w.heap[g]? = some (.cells cur.toList.toArray e (0, 0)) ∧ cur.size = cap := by
  rcases h.2 with ⟨h2, _⟩ | ⟨g', cap', cur, hv, hg, hh, hnc, hcm, hcs, hx⟩
  · cases h2
  · simp only [Value.slice.injEq, Option.some.injEq, Addr.mk.injEq] at hv
    obtain ⟨⟨rfl, _, _⟩, _, rfl⟩ := hv
    exact ⟨cur, by simpa using hh, by simpa using hcs⟩
theorem row_some {k : IntKind} {w : World} {a : Option Addr} {n cap : Nat} {zs : List Int} (h : Row k w a n cap zs) (hn : 0 < n) : ∃ ad, a = some ad ∧ ∀ j u, (zs.map (Value.int k))[j]? = some u → w.cell? (ad.add j) = some u := by
  rcases h.at_ with h0 | ⟨b, off, rfl, _, _⟩
  · omega
  · exact ⟨_, rfl, h.cells _ rfl⟩
theorem own_lo {w : World} {base base' : Nat} {e : TypeId} {size : Nat} {v : Value} {n : Nat} {xs : List Value} (h : w.ownsRow base e size v n xs) (hb : base' ≤ base) : w.ownsRow base' e size v n xs :=
  ⟨h.1, h.2.imp id (fun ⟨g', r1, r2, r3, r4, r5⟩ => ⟨g', r1, r2, r3, Nat.le_trans hb r4, r5⟩)⟩
theorem newLine_any (a : Option Addr) (n c : Nat) (l : List Int) (w : World) (h : Row .i32 w a n c l) (hn : 4 * n ≤ 281474976710656) :
    Calls Try.prog 97 #[.slice a n c] w fun e w' => e = .returned (.slice (some ⟨w.heap.size, 0, none⟩) n n) ∧
      w'.ownsRow w.heap.size 21 1 (.slice (some ⟨w.heap.size, 0, none⟩) n n) n (l.map (Value.int .i32)) ∧ Below w.heap.size w w' := by
  obtain ⟨i0, hi, hz0, hz1, hz2⟩ := info_parts info32
  have hl : (l.map (Value.int .i32)).length = n := by simp [h.len]
  go_enter Try.func97, Try.ntmps97
  go_wp2_with (first
    | (refine wpList_make_full _ rfl _ _ 60 rfl w.heap.size 21 i0 (.int .i32 0) 1 Try.underlying60 hi hz0 hz1 .i64 .i64 _ _ n rfl rfl rfl rfl (by rw [hz2]; omega) (by unfold maxLen; omega) (Nat.le_refl _) ?_; intro w1 hown hgrow; have hg1 := belowNone hgrow; have hr1 := h.below hg1; obtain ⟨cur, hcur, hcs⟩ := own_block hown)
    | (refine wpList_copy_splice rfl (.tmp 7) (.tmp 8) 60 60 rfl 21 Try.underlying60 size32 _ _ n n n c rfl rfl w.heap.size 0 cur.toList 21 hcur (l.map (Value.int .i32)) (by rw [hl]; exact (Nat.min_self n).symm) (fun hp => ⟨rfl, row_some hr1 (by rw [hl] at hp; exact hp)⟩) (by rw [hl]; simp; omega) (ints_oneCell _ _) w.heap.size w hg1 (Nat.le_refl _) ?_; intro w2 hrow2 hb2))
  go_ret
  refine ⟨rfl, ?_, hb2⟩
  have := hrow2.out
  rw [splice_all _ _ (by rw [hl]; simpa using hcs)] at this
  exact ⟨by simp [h.len], .inr ⟨w.heap.size, n, _, rfl, Nat.le_refl _, this, Nat.le_refl _, by unfold maxLen; omega, by simp [h.len], by rw [Nat.mul_one]; exact List.take_of_length_le (by simp [h.len])⟩⟩

def toOf (l : List Int) (k : Nat) : Nat := if 1 ≤ k ∧ prB l (k - 1) = true then k - 1 else k
def cut (l : List Int) (a b : Nat) : List Int := (l.drop a).take (b - a)
def linesTo (l : List Int) : Nat → List (List Int) × Nat
  | 0 => ([], 0)
  | k + 1 => if enB l k then ((linesTo l k).1 ++ [cut l (linesTo l k).2 (toOf l k)], k + 1) else linesTo l k
def linesL (l : List Int) : List (List Int) := (linesTo l l.length).1 ++ [l.drop (linesTo l l.length).2]
theorem en_pr (l : List Int) (k : Nat) (h : prB l k = true) : enB l k = false := by
  have h2 := h
  simp only [prB, Bool.and_eq_true, beq_iff_eq] at h2
  unfold enB
  rw [h, h2.1.2]
  rfl
theorem linesTo_inv (l : List Int) (k : Nat) : (linesTo l k).2 ≤ k ∧ ((linesTo l k).2 = 0 ∨ enB l ((linesTo l k).2 - 1) = true) ∧ (linesTo l k).1.length ≤ k := by
  induction k with
  | zero => simp [linesTo]
  | succ k ih =>
    simp only [linesTo]
    split
    · rename_i h
      refine ⟨Nat.le_refl _, .inr (by simpa using h), by simp; omega⟩
    · exact ⟨by omega, ih.2.1, by omega⟩
theorem from_to (l : List Int) (k : Nat) : (linesTo l k).2 ≤ toOf l k ∧ toOf l k ≤ k := by
  have h := linesTo_inv l k
  unfold toOf
  split
  · rename_i hp
    refine ⟨?_, by omega⟩
    rcases Nat.lt_or_ge (linesTo l k).2 k with h1 | h1
    · omega
    · exfalso
      have e : (linesTo l k).2 = k := by omega
      rcases h.2.1 with h2 | h2
      · omega
      · rw [e, en_pr l (k - 1) hp.2] at h2
        cases h2
  · omega
def lineVal (g : Nat) (ln : List Int) : Value := .slice (some ⟨g, 0, none⟩) ln.length ln.length
structure LinesAt (w : World) (base : Nat) (v : Value) (gs : List Nat) (lns : List (List Int)) : Prop where
  len : gs.length = lns.length
  own : w.ownsRow base 60 1 v lns.length (List.zipWith lineVal gs lns)
  each : ∀ i, i < lns.length → w.ownsRow base 21 1 (lineVal (gs.getD i 0) (lns.getD i [])) (lns.getD i []).length ((lns.getD i []).map (Value.int .i32))
  nodup : gs.Nodup
theorem LinesAt.below {w w' : World} {base : Nat} {v : Value} {gs : List Nat} {lns : List (List Int)} (h : LinesAt w base v gs lns) (hb : Below w.heap.size w w') : LinesAt w' base v gs lns :=
  ⟨h.len, own_below h.own hb, fun i hi => own_below (h.each i hi) hb, h.nodup⟩
theorem LinesAt.low {w : World} {base base' : Nat} {v : Value} {gs : List Nat} {lns : List (List Int)} (h : LinesAt w base v gs lns) (hb : base' ≤ base) : LinesAt w base' v gs lns :=
  ⟨h.len, own_lo h.own hb, fun i hi => own_lo (h.each i hi) hb, h.nodup⟩
theorem line_block {w : World} {base g : Nat} {ln : List Int} (h : w.ownsRow base 21 1 (lineVal g ln) ln.length (ln.map (Value.int .i32))) : base ≤ g ∧ ∃ cur, w.heap[g]? = some (.cells cur 21 (0, 0)) := by
  rcases h.2 with ⟨h2, _⟩ | ⟨g', cap', cur, hv, hg, hh, _⟩
  · cases h2
  · simp only [lineVal, Value.slice.injEq, Option.some.injEq, Addr.mk.injEq] at hv
    obtain ⟨⟨rfl, _, _⟩, _, _⟩ := hv
    exact ⟨hg, cur, hh⟩
theorem outer_block {w : World} {base : Nat} {v : Value} {n : Nat} {xs : List Value} (h : w.ownsRow base 60 1 v n xs) : ∀ G, v.ownBlock = some G → ∃ cur, w.heap[G]? = some (.cells cur 60 (0, 0)) := by
  intro G hG
  rcases h.2 with ⟨rfl, _⟩ | ⟨g', cap', cur, rfl, hg, hh, _⟩
  · cases hG
  · obtain rfl := Option.some.inj hG
    exact ⟨cur, hh⟩
/-- One line more: the new line's row lies in 'w1', the outer row has been appended to. -/
theorem LinesAt.snoc {w w1 w2 : World} {base : Nat} {v v' : Value} {gs : List Nat} {lns : List (List Int)} {o : Obj} {g : Nat} {ln : List Int}
    (h : LinesAt w base v gs lns) (hg : g = w.heap.size) (hb : Below w.heap.size w w1) (hln : w1.ownsRow base 21 1 (lineVal g ln) ln.length (ln.map (Value.int .i32)))
    (hown : w2.ownsRow base 60 1 v' (lns.length + 1) (List.zipWith lineVal gs lns ++ [lineVal g ln])) (hgrow : (w1.alloc o).grownBy w2 v.ownBlock) :
    LinesAt w2 base v' (gs ++ [g]) (lns ++ [ln]) := by
  have hne : ∀ (g' : Nat) (ln' : List Int), w1.ownsRow base 21 1 (lineVal g' ln') ln'.length (ln'.map (Value.int .i32)) → w2.ownsRow base 21 1 (lineVal g' ln') ln'.length (ln'.map (Value.int .i32)) := by
    intro g' ln' h'
    refine (h'.alloc o).kept hgrow (.inr ?_)
    intro e
    obtain ⟨cur, hcur⟩ := outer_block (own_below h.own hb) g' (by rw [← e]; rfl)
    obtain ⟨_, cur', hcur'⟩ := line_block h'
    rw [hcur'] at hcur
    simp at hcur
  refine ⟨by simp [h.len], ?_, fun i hi => ?_, ?_⟩
  · rw [List.zipWith_append (by exact h.len)]
    simpa using hown
  · by_cases hi' : i < lns.length
    · have e1 : (gs ++ [g]).getD i 0 = gs.getD i 0 := by simp [List.getD, List.getElem?_append_left (show i < gs.length by rw [h.len]; exact hi')]
      have e2 : (lns ++ [ln]).getD i [] = lns.getD i [] := by simp [List.getD, List.getElem?_append_left hi']
      rw [e1, e2]
      exact hne _ _ (own_below (h.each i hi') hb)
    · have e : i = lns.length := by simp at hi; omega
      have e1 : (gs ++ [g]).getD i 0 = g := by rw [e, ← h.len]; simp [List.getD]
      have e2 : (lns ++ [ln]).getD i [] = ln := by rw [e]; simp [List.getD]
      rw [e1, e2]
      exact hne _ _ hln
  · rw [List.nodup_append]
    refine ⟨h.nodup, by simp, ?_⟩
    intro x hx y hy e
    simp at hy
    subst hy
    subst e
    obtain ⟨i, hi, rfl⟩ := List.mem_iff_getElem.1 hx
    obtain ⟨_, cur, hcur⟩ := line_block (h.each i (by rw [← h.len]; exact hi))
    have e1 : gs.getD i 0 = gs[i] := by simp [List.getD, hi]
    rw [e1, hg, Array.getElem?_eq_none (Nat.le_refl _)] at hcur
    cases hcur
end Go.Proofs.Ytgphiollpbahgaa.mem
namespace Go.Proofs.Ytgphiollpbahgaa.mem
open Go.ChangeShapes Go.WideShapes Go.ChangeAt Go.RowKit
open ints (hide unhide)
set_option linter.unusedVariables false

theorem infoSl : (Try.prog.info? 60).map (fun i => (i.zero, i.size, i.bytes)) = some (some (.slice none 0 0), 1, 24) := by kernel_rfl
theorem cut_len (l : List Int) (a b : Nat) (h : b ≤ l.length) : (cut l a b).length = b - a := by simp [cut]; omega
theorem Row.sub {k : IntKind} {w : World} {b off n c : Nat} {l : List Int} (hl : l.length = n) (hc : n ≤ c) {f t : Nat} (hft : f ≤ t) (ht : t ≤ n) (hbw : b < w.heap.size) (hcell : ∀ i, i < n → w.cell? ⟨b, off + i, none⟩ = some (.int k (l.getD i 0))) :
    Row k w (some ⟨b, off + f, none⟩) (t - f) (c - f) (cut l f t) := by
  refine ⟨cut_len l f t (by omega), by omega, (fun e => by cases e), .inr ⟨b, off + f, rfl, hbw, fun i hi => ?_⟩⟩
  rw [Nat.add_assoc, hcell (f + i) (by omega)]
  simp [cut, List.getD, hi]
theorem one_val (v : Value) (h : v.oneCell' = true) : ∀ u ∈ [v], u.oneCell' = true := by intro u hu; simp at hu; subst hu; exact h
theorem cellv (w : World) (x : Value) (t : TypeId) : ∀ j u, [x][j]? = some u → (w.alloc (.cells #[x] t)).cell? ((⟨w.heap.size, 0, none⟩ : Addr).add j) = some u := by
  intro j u hj
  match j, hj with
  | 0, hj => simp at hj; subst hj; simp [Addr.add]
  | (j + 1), hj => simp at hj
theorem rowZ {k : IntKind} {w : World} {a : Option Addr} {n c : Nat} (h : n = 0) (hn : a = none → c = 0) : Row k w a n c [] := ⟨by simp [h], by omega, hn, .inl h⟩
theorem linesNil (w : World) (base : Nat) : LinesAt w base (.slice none 0 0) [] [] := ⟨rfl, World.ownsRow_nil _ _ _ _, fun i hi => by simp at hi, List.nodup_nil⟩
theorem linesTo_yes {l : List Int} {k : Nat} (h : enB l k = true) : linesTo l (k + 1) = ((linesTo l k).1 ++ [cut l (linesTo l k).2 (toOf l k)], k + 1) := by simp [linesTo, h]
theorem linesTo_no {l : List Int} {k : Nat} (h : enB l k = false) : linesTo l (k + 1) = linesTo l k := by simp [linesTo, h]
/-- pairedAt(chars, k - 1), k from 0 on. -/
theorem paired_pred (a : Option Addr) (n c : Nat) (l : List Int) (k : Nat) (w : World) (h : Row .i32 w a n c l) (hn : n ≤ 9223372036854775806) (hk : k ≤ n) :
    Calls Try.prog 71 #[.slice a n c, .int .i64 ((k : Int) - 1)] w fun e w' => e = .returned (.bool (decide (1 ≤ k) && prB l (k - 1))) ∧ w' = w := by
  cases k with
  | zero => exact paired_neg a n c w
  | succ k =>
    have e : (((k + 1 : Nat) : Int) - 1) = (k : Int) := by omega
    rw [e]
    have := paired_nat a n c l k w h hn (by omega)
    simpa using this
set_option maxHeartbeats 2000000 in
theorem lines_any (a : Option Addr) (n c : Nat) (l : List Int) (w : World) (h : Row .i32 w a n c l) (hn : n ≤ 1099511627776) :
    Calls Try.prog 89 #[.slice a n c] w fun e w' => ∃ v gs, e = .returned v ∧ LinesAt w' w.heap.size v gs (linesL l) ∧ Below w.heap.size w w' := by
  obtain ⟨i0, hi, hz0, hz1, hz2⟩ := info_parts infoSl
  go_enter Try.func89, Try.ntmps89
  go_wp2
  go_loopw [3, 4, 9] (fun v f i wr => ∃ (k : Nat) (gs : List Nat), k ≤ n ∧ i = .int .i64 k ∧ f = .int .i64 ((linesTo l k).2 : Nat) ∧ LinesAt wr w.heap.size v gs (linesTo l k).1 ∧ Below w.heap.size w wr) (fun _ _ i _ => n - (intOf i).toNat)
  case atStart => exact ⟨0, [], Nat.zero_le _, rfl, rfl, linesNil _ _, Below.refl _ _⟩
  case round =>
    obtain ⟨k, gs, hk, rfl, rfl, hat, hbel⟩ := hrel
    have hinv := linesTo_inv l k
    have hft := from_to l k
    obtain ⟨F, hF⟩ : ∃ F, F = (linesTo l k).2 := ⟨_, rfl⟩
    obtain ⟨L, hL⟩ : ∃ L, L = (linesTo l k).1 := ⟨_, rfl⟩
    rw [← hF] at hinv hft ⊢
    rw [← hL] at hat hinv
    have HF := hide hF
    have HL := hide hL
    clear hF hL
    by_cases hlt : k < n
    · have hr := h.below hbel
      have P := hide (ends_any a n c l k wr hr (by omega) hlt)
      have hki : (k : Int) < (n : Int) := by omega
      cases hp : enB l k
      · rw [hp] at P
        have HP := hide hp
        clear hp
        go_wp2_with fail
        refine (unhide P).mono ?_
        rintro e w' ⟨rfl, rfl⟩
        clear P
        go_wp2
        go_roundw
        case rel => exact ⟨k + 1, gs, by omega, by go_num, by rw [linesTo_no (unhide HP), ← unhide HF], by rw [linesTo_no (unhide HP), ← unhide HL]; exact hat, hbel⟩
        case measure => simp [intOf]; omega
      · rw [hp] at P
        have HP := hide hp
        have Q := hide (paired_pred a n c l k wr hr (by omega) (by omega))
        obtain ⟨T, hT⟩ : ∃ T, T = toOf l k := ⟨_, rfl⟩
        rw [← hT] at hft
        have HT := hide hT
        rcases h.at_ with h0 | ⟨b, off, rfl, hbw, hcell⟩
        · omega
        have hle := h.le
        have hsub := Row.sub (k := .i32) (w := wr) (b := b) (off := off) (c := c) h.len hle hft.1 (show T ≤ n by omega) (Nat.lt_of_lt_of_le hbw hbel.size) (fun i hi => (hbel.cell (p := ⟨b, off + i, none⟩) hbw).trans (hcell i hi))
        have N := hide (newLine_any _ _ _ _ wr hsub (by omega))
        have hlen := cut_len l F T (by rw [h.len]; omega)
        have f1 := hft.1
        have f2 := hft.2
        have hcF : ¬ c = F := by omega
        clear hp hT hcell hsub hr
        cases hpp : (decide (1 ≤ k) && prB l (k - 1))
        · have eT : T = k := by rw [unhide HT]; unfold toOf; rw [if_neg (fun hh => by rw [decide_eq_true hh.1, hh.2] at hpp; cases hpp)]
          rw [hpp] at Q
          have HS := hide (show cut l F k = cut l F (toOf l k) from by rw [← unhide HT, eT])
          rw [eT] at N hlen f1 f2
          clear HT hpp eT hft
          go_wp2_with fail
          refine (unhide P).mono ?_
          rintro e w' ⟨rfl, rfl⟩
          clear P
          go_wp2_with fail
          refine (unhide Q).mono ?_
          rintro e w' ⟨rfl, rfl⟩
          clear Q
          go_wp2_with fail
          have hkF : 0 ≤ (k : Int) := by omega
          refine (unhide N).mono ?_
          rintro e w2 ⟨rfl, hln, hb2⟩
          have Hlen := hide hlen
          have hown2 := own_below hat.own hb2
          have hl2 : w2.ownsRow w.heap.size 21 1 (lineVal w'.heap.size (cut l F k)) (cut l F k).length ((cut l F k).map (Value.int .i32)) := by
            unfold lineVal
            rw [unhide Hlen]
            exact own_lo hln hbel.size
          have HL2 := hide hl2
          have HB2 := hide hb2
          have hsz2 := Nat.le_trans hbel.size hb2.size
          have hLk := hinv.2.2
          have HLT := hide hown2.lt
          clear N hln hlen hl2 hb2 hinv
          go_wp2_with (at_builtin; refine wpList_append_own _ rfl (.tmp 23) (.tmp 29) 129 rfl w.heap.size 60 i0 (.slice none 0 0) 1 24 Try.underlying129 hi hz0 hz1 hz2 rfl (by decide) _ _ _ rfl (hown2.alloc _) ⟨w2.heap.size, 0, none⟩ 1 1 [.slice (some ⟨w'.heap.size, 0, none⟩) (k - F) (k - F)] rfl rfl (cellv _ _ _) (one_val _ rfl) (by unfold maxLen; omega) (by omega) (by simp; omega) ?_; intro v' w3 hown3 hgrow3 _)
          go_roundw
          case rel =>
            have e3 : Value.slice (some ⟨w'.heap.size, 0, none⟩) (k - F) (k - F) = lineVal w'.heap.size (cut l F k) := by unfold lineVal; rw [unhide Hlen]
            rw [e3] at hown3
            have R := hat.snoc rfl (unhide HB2) (unhide HL2) hown3 hgrow3
            refine ⟨k + 1, gs ++ [w'.heap.size], by omega, by go_num, ?_, ?_, ?_⟩
            · rw [linesTo_yes (unhide HP)]; go_num
            · rw [linesTo_yes (unhide HP), ← unhide HL, ← unhide HF, ← unhide HS]; exact R
            · exact ((hbel.trans ((unhide HB2).mono hbel.size)).alloc hsz2 _).grown hgrow3 (by simp; omega) (fun k hk => (unhide HLT k hk).1)
          case measure => simp [intOf]; omega
        · have hk1 : 1 ≤ k := by simp at hpp; exact hpp.1
          have eT : T = k - 1 := by rw [unhide HT]; unfold toOf; rw [if_pos (by simpa using hpp)]
          rw [hpp] at Q
          have HS := hide (show cut l F (k - 1) = cut l F (toOf l k) from by rw [← unhide HT, eT])
          rw [eT] at N hlen f1 f2
          clear HT hpp eT hft
          go_wp2_with fail
          refine (unhide P).mono ?_
          rintro e w' ⟨rfl, rfl⟩
          clear P
          go_wp2_with fail
          refine (unhide Q).mono ?_
          rintro e w' ⟨rfl, rfl⟩
          clear Q
          go_wp2_with fail
          have hkF : 0 ≤ (k : Int) := by omega
          refine (unhide N).mono ?_
          rintro e w2 ⟨rfl, hln, hb2⟩
          have Hlen := hide hlen
          have hown2 := own_below hat.own hb2
          have hl2 : w2.ownsRow w.heap.size 21 1 (lineVal w'.heap.size (cut l F (k - 1))) (cut l F (k - 1)).length ((cut l F (k - 1)).map (Value.int .i32)) := by
            unfold lineVal
            rw [unhide Hlen]
            exact own_lo hln hbel.size
          have HL2 := hide hl2
          have HB2 := hide hb2
          have hsz2 := Nat.le_trans hbel.size hb2.size
          have hLk := hinv.2.2
          have HLT := hide hown2.lt
          clear N hln hlen hl2 hb2 hinv
          go_wp2_with (at_builtin; refine wpList_append_own _ rfl (.tmp 23) (.tmp 29) 129 rfl w.heap.size 60 i0 (.slice none 0 0) 1 24 Try.underlying129 hi hz0 hz1 hz2 rfl (by decide) _ _ _ rfl (hown2.alloc _) ⟨w2.heap.size, 0, none⟩ 1 1 [.slice (some ⟨w'.heap.size, 0, none⟩) ((k - 1) - F) ((k - 1) - F)] rfl rfl (cellv _ _ _) (one_val _ rfl) (by unfold maxLen; omega) (by omega) (by simp; omega) ?_; intro v' w3 hown3 hgrow3 _)
          go_roundw
          case rel =>
            have e3 : Value.slice (some ⟨w'.heap.size, 0, none⟩) ((k - 1) - F) ((k - 1) - F) = lineVal w'.heap.size (cut l F (k - 1)) := by unfold lineVal; rw [unhide Hlen]
            rw [e3] at hown3
            have R := hat.snoc rfl (unhide HB2) (unhide HL2) hown3 hgrow3
            refine ⟨k + 1, gs ++ [w'.heap.size], by omega, by go_num, ?_, ?_, ?_⟩
            · rw [linesTo_yes (unhide HP)]; go_num
            · rw [linesTo_yes (unhide HP), ← unhide HL, ← unhide HF, ← unhide HS]; exact R
            · exact ((hbel.trans ((unhide HB2).mono hbel.size)).alloc hsz2 _).grown hgrow3 (by simp; omega) (fun k hk => (unhide HLT k hk).1)
          case measure => simp [intOf]; omega
    · have hkn : k = n := by omega
      have HLL := hide (show linesL l = L ++ [l.drop F] from by unfold linesL; rw [h.len, ← hkn, ← unhide HF, ← unhide HL])
      have Hdl := hide (show (l.drop F).length = n - F from by simp [h.len])
      have hFn : F ≤ n := by omega
      have hnk : ¬ (k : Int) < (n : Int) := by omega
      have hle := h.le
      clear hft
      by_cases hpos : 0 < n
      · rcases h.at_ with h0 | ⟨b, off, rfl, hbw, hcell⟩
        · omega
        by_cases hcF : c = F
        · have hz0' : n - F = 0 := by omega
          have hnil : l.drop F = [] := List.drop_eq_nil_of_le (by rw [h.len]; omega)
          have HN := hide hnil
          have N := hide (newLine_any (some ⟨b, off, none⟩) (n - F) 0 (l.drop F) wr (by rw [hnil]; exact rowZ hz0' (fun e => by cases e)) (by omega))
          have hfi : (F : Int) ≤ (n : Int) := by omega
          clear hcell hnil hz0'
          go_wp2_with fail
          refine (unhide N).mono ?_
          rintro e w2 ⟨rfl, hln, hb2⟩
          have hown2 := own_below hat.own hb2
          have hl2 : w2.ownsRow w.heap.size 21 1 (lineVal wr.heap.size (l.drop F)) (l.drop F).length ((l.drop F).map (Value.int .i32)) := by
            unfold lineVal
            rw [unhide Hdl]
            exact own_lo hln hbel.size
          have HL2 := hide hl2
          have HB2 := hide hb2
          have hsz2 := Nat.le_trans hbel.size hb2.size
          have hLk := hinv.2.2
          have HLT := hide hown2.lt
          clear hln hl2 hb2 hinv
          go_wp2_with (at_builtin; refine wpList_append_own _ rfl (.tmp 34) (.tmp 39) 129 rfl w.heap.size 60 i0 (.slice none 0 0) 1 24 Try.underlying129 hi hz0 hz1 hz2 rfl (by decide) _ _ _ rfl (hown2.alloc _) ⟨w2.heap.size, 0, none⟩ 1 1 [.slice (some ⟨wr.heap.size, 0, none⟩) (n - F) (n - F)] rfl rfl (cellv _ _ _) (one_val _ rfl) (by unfold maxLen; omega) (by omega) (by simp; omega) ?_; intro v' w3 hown3 hgrow3 _)
          go_ret
          have e3 : Value.slice (some ⟨wr.heap.size, 0, none⟩) (n - F) (n - F) = lineVal wr.heap.size (l.drop F) := by unfold lineVal; rw [unhide Hdl]
          rw [e3] at hown3
          have R := hat.snoc rfl (unhide HB2) (unhide HL2) hown3 hgrow3
          rw [unhide HLL]
          exact ⟨v', _, rfl, R, ((hbel.trans ((unhide HB2).mono hbel.size)).alloc hsz2 _).grown hgrow3 (by simp; omega) (fun k hk => (unhide HLT k hk).1)⟩
        · have ecut : cut l F n = l.drop F := by unfold cut; rw [List.take_of_length_le (by simp [h.len])]
          have hsub := Row.sub (k := .i32) (w := wr) (b := b) (off := off) (c := c) h.len hle hFn (Nat.le_refl n) (Nat.lt_of_lt_of_le hbw hbel.size) (fun i hi => (hbel.cell (p := ⟨b, off + i, none⟩) hbw).trans (hcell i hi))
          rw [ecut] at hsub
          have N := hide (newLine_any _ _ _ _ wr hsub (by omega))
          have hfi : (F : Int) ≤ (n : Int) := by omega
          clear hcell hsub ecut
          go_wp2_with fail
          refine (unhide N).mono ?_
          rintro e w2 ⟨rfl, hln, hb2⟩
          have hown2 := own_below hat.own hb2
          have hl2 : w2.ownsRow w.heap.size 21 1 (lineVal wr.heap.size (l.drop F)) (l.drop F).length ((l.drop F).map (Value.int .i32)) := by
            unfold lineVal
            rw [unhide Hdl]
            exact own_lo hln hbel.size
          have HL2 := hide hl2
          have HB2 := hide hb2
          have hsz2 := Nat.le_trans hbel.size hb2.size
          have hLk := hinv.2.2
          have HLT := hide hown2.lt
          clear hln hl2 hb2 hinv
          go_wp2_with (at_builtin; refine wpList_append_own _ rfl (.tmp 34) (.tmp 39) 129 rfl w.heap.size 60 i0 (.slice none 0 0) 1 24 Try.underlying129 hi hz0 hz1 hz2 rfl (by decide) _ _ _ rfl (hown2.alloc _) ⟨w2.heap.size, 0, none⟩ 1 1 [.slice (some ⟨wr.heap.size, 0, none⟩) (n - F) (n - F)] rfl rfl (cellv _ _ _) (one_val _ rfl) (by unfold maxLen; omega) (by omega) (by simp; omega) ?_; intro v' w3 hown3 hgrow3 _)
          go_ret
          have e3 : Value.slice (some ⟨wr.heap.size, 0, none⟩) (n - F) (n - F) = lineVal wr.heap.size (l.drop F) := by unfold lineVal; rw [unhide Hdl]
          rw [e3] at hown3
          have R := hat.snoc rfl (unhide HB2) (unhide HL2) hown3 hgrow3
          rw [unhide HLL]
          exact ⟨v', _, rfl, R, ((hbel.trans ((unhide HB2).mono hbel.size)).alloc hsz2 _).grown hgrow3 (by simp; omega) (fun k hk => (unhide HLT k hk).1)⟩
      · have hn0 : n = 0 := by omega
        have hF0 : F = 0 := by omega
        have hl0 : l = [] := List.eq_nil_of_length_eq_zero (by rw [h.len]; exact hn0)
        have hnil' := h.nil
        subst hn0 hF0
        have Hdl0 := hide (show (l.drop 0).length = 0 from by rw [hl0]; rfl)
        have Hl0 := hide hl0
        clear hl0 Hdl
        have Hdl := Hdl0
        clear Hdl0
        cases a with
        | none =>
          have hc0 : c = 0 := hnil' rfl
          subst hc0
          have N := hide (newLine_any none 0 0 (l.drop 0) wr (by rw [unhide Hl0]; exact rowZ rfl (fun _ => rfl)) (by omega))
          clear hnil' h
          go_wp2_with fail
          refine (unhide N).mono ?_
          rintro e w2 ⟨rfl, hln, hb2⟩
          have hown2 := own_below hat.own hb2
          have hl2 : w2.ownsRow w.heap.size 21 1 (lineVal wr.heap.size (l.drop 0)) (l.drop 0).length ((l.drop 0).map (Value.int .i32)) := by
            unfold lineVal
            rw [unhide Hdl]
            exact own_lo hln hbel.size
          have HL2 := hide hl2
          have HB2 := hide hb2
          have hsz2 := Nat.le_trans hbel.size hb2.size
          have hLk := hinv.2.2
          have HLT := hide hown2.lt
          clear hln hl2 hb2 hinv
          go_wp2_with (at_builtin; refine wpList_append_own _ rfl (.tmp 34) (.tmp 39) 129 rfl w.heap.size 60 i0 (.slice none 0 0) 1 24 Try.underlying129 hi hz0 hz1 hz2 rfl (by decide) _ _ _ rfl (hown2.alloc _) ⟨w2.heap.size, 0, none⟩ 1 1 [.slice (some ⟨wr.heap.size, 0, none⟩) 0 0] rfl rfl (cellv _ _ _) (one_val _ rfl) (by unfold maxLen; omega) (by omega) (by simp; omega) ?_; intro v' w3 hown3 hgrow3 _)
          go_ret
          have e3 : Value.slice (some ⟨wr.heap.size, 0, none⟩) 0 0 = lineVal wr.heap.size (l.drop 0) := by unfold lineVal; rw [unhide Hdl]
          rw [e3] at hown3
          have R := hat.snoc rfl (unhide HB2) (unhide HL2) hown3 hgrow3
          rw [unhide HLL]
          exact ⟨v', _, rfl, R, ((hbel.trans ((unhide HB2).mono hbel.size)).alloc hsz2 _).grown hgrow3 (by simp; omega) (fun k hk => (unhide HLT k hk).1)⟩
        | some ad =>
          have N := hide (newLine_any (some ad) 0 c (l.drop 0) wr (by rw [unhide Hl0]; exact rowZ rfl (fun e => by cases e)) (by omega))
          by_cases hc0 : c = 0
          · subst hc0
            clear hnil' h
            go_wp2_with fail
            refine (unhide N).mono ?_
            rintro e w2 ⟨rfl, hln, hb2⟩
            have hown2 := own_below hat.own hb2
            have hl2 : w2.ownsRow w.heap.size 21 1 (lineVal wr.heap.size (l.drop 0)) (l.drop 0).length ((l.drop 0).map (Value.int .i32)) := by
              unfold lineVal
              rw [unhide Hdl]
              exact own_lo hln hbel.size
            have HL2 := hide hl2
            have HB2 := hide hb2
            have hsz2 := Nat.le_trans hbel.size hb2.size
            have hLk := hinv.2.2
            have HLT := hide hown2.lt
            clear hln hl2 hb2 hinv
            go_wp2_with (at_builtin; refine wpList_append_own _ rfl (.tmp 34) (.tmp 39) 129 rfl w.heap.size 60 i0 (.slice none 0 0) 1 24 Try.underlying129 hi hz0 hz1 hz2 rfl (by decide) _ _ _ rfl (hown2.alloc _) ⟨w2.heap.size, 0, none⟩ 1 1 [.slice (some ⟨wr.heap.size, 0, none⟩) 0 0] rfl rfl (cellv _ _ _) (one_val _ rfl) (by unfold maxLen; omega) (by omega) (by simp; omega) ?_; intro v' w3 hown3 hgrow3 _)
            go_ret
            have e3 : Value.slice (some ⟨wr.heap.size, 0, none⟩) 0 0 = lineVal wr.heap.size (l.drop 0) := by unfold lineVal; rw [unhide Hdl]
            rw [e3] at hown3
            have R := hat.snoc rfl (unhide HB2) (unhide HL2) hown3 hgrow3
            rw [unhide HLL]
            exact ⟨v', _, rfl, R, ((hbel.trans ((unhide HB2).mono hbel.size)).alloc hsz2 _).grown hgrow3 (by simp; omega) (fun k hk => (unhide HLT k hk).1)⟩
          · clear hnil' h
            go_wp2_with fail
            refine (unhide N).mono ?_
            rintro e w2 ⟨rfl, hln, hb2⟩
            have hown2 := own_below hat.own hb2
            have hl2 : w2.ownsRow w.heap.size 21 1 (lineVal wr.heap.size (l.drop 0)) (l.drop 0).length ((l.drop 0).map (Value.int .i32)) := by
              unfold lineVal
              rw [unhide Hdl]
              exact own_lo hln hbel.size
            have HL2 := hide hl2
            have HB2 := hide hb2
            have hsz2 := Nat.le_trans hbel.size hb2.size
            have hLk := hinv.2.2
            have HLT := hide hown2.lt
            clear hln hl2 hb2 hinv
            go_wp2_with (at_builtin; refine wpList_append_own _ rfl (.tmp 34) (.tmp 39) 129 rfl w.heap.size 60 i0 (.slice none 0 0) 1 24 Try.underlying129 hi hz0 hz1 hz2 rfl (by decide) _ _ _ rfl (hown2.alloc _) ⟨w2.heap.size, 0, none⟩ 1 1 [.slice (some ⟨wr.heap.size, 0, none⟩) 0 0] rfl rfl (cellv _ _ _) (one_val _ rfl) (by unfold maxLen; omega) (by omega) (by simp; omega) ?_; intro v' w3 hown3 hgrow3 _)
            go_ret
            have e3 : Value.slice (some ⟨wr.heap.size, 0, none⟩) 0 0 = lineVal wr.heap.size (l.drop 0) := by unfold lineVal; rw [unhide Hdl]
            rw [e3] at hown3
            have R := hat.snoc rfl (unhide HB2) (unhide HL2) hown3 hgrow3
            rw [unhide HLL]
            exact ⟨v', _, rfl, R, ((hbel.trans ((unhide HB2).mono hbel.size)).alloc hsz2 _).grown hgrow3 (by simp; omega) (fun k hk => (unhide HLT k hk).1)⟩
end Go.Proofs.Ytgphiollpbahgaa.mem
namespace Go.Proofs.Ytgphiollpbahgaa.sv
set_option linter.unusedVariables false

def whB (c : Int) : Bool := c == 9 || c == 32
def soB (c : Int) : Bool := c == 9 || c == 10 || c == 13 || (decide (32 ≤ c) && decide (c ≤ 55295)) || (decide (57344 ≤ c) && decide (c ≤ 65535))
def ind (l : List Int) : Nat := (l.takeWhile whB).length
def blk (l : List Int) : Bool := l.all whB
/-- The lines: a line feed, a carriage return, or both together end one. -/
def pre (c : Int) : List (List Int) → List (List Int)
  | [] => [[c]]
  | x :: xs => (c :: x) :: xs
def lns : List Int → List (List Int)
  | [] => [[]]
  | c :: r => if c = 10 then [] :: lns r else if c = 13 then (if r.head? = some 10 then lns r else [] :: lns r) else pre c (lns r)
def jn : List (List Int) → List Int
  | [] => []
  | [x] => x
  | x :: y :: r => x ++ 10 :: jn (y :: r)
/-- A line that no line end stands in. -/
def flat (x : List Int) : Prop := ∀ c ∈ x, c ≠ 10 ∧ c ≠ 13
theorem flat_nil : flat [] := fun _ h => by cases h
theorem flat_cons {c : Int} {x : List Int} (h : c ≠ 10 ∧ c ≠ 13) (hx : flat x) : flat (c :: x) := fun d hd => by
  rcases List.mem_cons.1 hd with rfl | h2
  · exact h
  · exact hx d h2
theorem flat_tail {c : Int} {x : List Int} (h : flat (c :: x)) : flat x := fun d hd => h d (List.mem_cons_of_mem _ hd)
theorem pre_ne (c : Int) (L : List (List Int)) : pre c L ≠ [] := by cases L <;> simp [pre]
theorem lns_ne : ∀ l, lns l ≠ []
  | [] => by simp [lns]
  | c :: r => by
    rw [lns]
    split
    · simp
    · split
      · split
        · exact lns_ne r
        · simp
      · exact pre_ne _ _
theorem lns_flat : ∀ l, ∀ x ∈ lns l, flat x
  | [], x, h => by simp [lns] at h; subst h; exact flat_nil
  | c :: r, x, h => by
    rw [lns] at h
    split at h
    · rcases List.mem_cons.1 h with rfl | h2
      · exact flat_nil
      · exact lns_flat r x h2
    · split at h
      · split at h
        · exact lns_flat r x h
        · rcases List.mem_cons.1 h with rfl | h2
          · exact flat_nil
          · exact lns_flat r x h2
      · rename_i h1 h2
        have ih := lns_flat r
        have hne := lns_ne r
        revert h ih hne
        cases lns r with
        | nil => intro h ih hne; exact absurd rfl hne
        | cons y ys =>
          intro h ih hne
          rcases List.mem_cons.1 h with rfl | h3
          · exact flat_cons ⟨h1, h2⟩ (ih y (by simp))
          · exact ih x (by simp [h3])
theorem lns_mem : ∀ l, ∀ x ∈ lns l, ∀ c ∈ x, c ∈ l
  | [], x, h, c, hc => by simp [lns] at h; subst h; cases hc
  | d :: r, x, h, c, hc => by
    rw [lns] at h
    split at h
    · rcases List.mem_cons.1 h with rfl | h2
      · cases hc
      · exact List.mem_cons_of_mem _ (lns_mem r x h2 c hc)
    · split at h
      · split at h
        · exact List.mem_cons_of_mem _ (lns_mem r x h c hc)
        · rcases List.mem_cons.1 h with rfl | h2
          · cases hc
          · exact List.mem_cons_of_mem _ (lns_mem r x h2 c hc)
      · have ih := lns_mem r
        have hne := lns_ne r
        revert h ih hne
        cases lns r with
        | nil => intro h ih hne; exact absurd rfl hne
        | cons y ys =>
          intro h ih hne
          rcases List.mem_cons.1 h with rfl | h3
          · rcases List.mem_cons.1 hc with rfl | h4
            · simp
            · exact List.mem_cons_of_mem _ (ih y (by simp) c h4)
          · exact List.mem_cons_of_mem _ (ih x (by simp [h3]) c hc)
/-- A line and its end. -/
theorem lns_cut : ∀ (x r : List Int), flat x → lns (x ++ 10 :: r) = x :: lns r
  | [], r, _ => by simp [lns]
  | c :: x, r, h => by
    have hc := h c (by simp)
    rw [List.cons_append, lns, if_neg hc.1, if_neg hc.2, lns_cut x r (flat_tail h)]
    rfl
theorem lns_one : ∀ (x : List Int), flat x → lns x = [x]
  | [], _ => rfl
  | c :: x, h => by
    have hc := h c (by simp)
    rw [lns, if_neg hc.1, if_neg hc.2, lns_one x (flat_tail h)]
    rfl
theorem lns_jn : ∀ (L : List (List Int)), L ≠ [] → (∀ x ∈ L, flat x) → lns (jn L) = L
  | [], h, _ => absurd rfl h
  | [x], _, h => by rw [jn]; exact lns_one x (h x (by simp))
  | x :: y :: r, _, h => by
    rw [jn, lns_cut x _ (h x (by simp)), lns_jn (y :: r) (by simp) (fun z hz => h z (by simp [List.mem_cons.1 hz]))]
theorem jn_pre (c : Int) : ∀ (L : List (List Int)), L ≠ [] → jn (pre c L) = c :: jn L
  | [], h => absurd rfl h
  | [x], _ => rfl
  | x :: y :: r, _ => rfl
theorem jn_cons (x : List Int) (L : List (List Int)) (h : L ≠ []) : jn (x :: L) = x ++ 10 :: jn L := by
  cases L with
  | nil => exact absurd rfl h
  | cons y r => rfl
theorem jn_lns : ∀ (l : List Int), (∀ c ∈ l, c ≠ 13) → jn (lns l) = l
  | [], _ => rfl
  | c :: r, h => by
    have hc := h c (by simp)
    have ih := jn_lns r (fun d hd => h d (by simp [hd]))
    rw [lns]
    split
    · rename_i h1
      rw [jn_cons _ _ (lns_ne r), ih, h1]
      rfl
    · rw [jn_pre c _ (lns_ne r), ih]
/-- Lines with an end each, and what comes behind. -/
theorem lns_ends : ∀ (L : List (List Int)) (r : List Int), (∀ x ∈ L, flat x) → lns (L.flatMap (fun x => x ++ [10]) ++ r) = L ++ lns r
  | [], r, _ => by simp
  | x :: L, r, h => by
    rw [List.flatMap_cons, List.append_assoc, List.append_assoc, List.singleton_append, lns_cut x _ (h x (by simp)), lns_ends L r (fun z hz => h z (by simp [hz])), List.cons_append]
theorem jn_mem : ∀ (L : List (List Int)) (c : Int), c ∈ jn L → c = 10 ∨ ∃ x ∈ L, c ∈ x
  | [], c, h => by simp [jn] at h
  | [x], c, h => by rw [jn] at h; exact .inr ⟨x, by simp, h⟩
  | x :: y :: r, c, h => by
    rw [jn, List.mem_append, List.mem_cons] at h
    rcases h with h | h | h
    · exact .inr ⟨x, by simp, h⟩
    · exact .inl h
    · rcases jn_mem (y :: r) c h with h2 | ⟨z, hz, h2⟩
      · exact .inl h2
      · exact .inr ⟨z, by simp [List.mem_cons.1 hz], h2⟩

/-- Quotes: the escape, three of them, reading and guarding. -/
def esc4 (l : List Int) : Bool := l.take 4 == [92, 34, 34, 34]
def tri (l : List Int) : Bool := l.take 3 == [34, 34, 34]
def opn (l : List Int) : List Int :=
  match l with
  | [] => []
  | c :: r => if esc4 (c :: r) then 34 :: 34 :: 34 :: opn (r.drop 3) else c :: opn r
termination_by l.length
decreasing_by all_goals (simp; try omega)
def grd (l : List Int) : List Int :=
  match l with
  | [] => []
  | c :: r => if tri (c :: r) then 92 :: 34 :: 34 :: 34 :: grd (r.drop 2) else c :: grd r
termination_by l.length
decreasing_by all_goals (simp; try omega)
theorem opn_nil : opn [] = [] := by rw [opn]
theorem opn_yes {c : Int} {r : List Int} (h : esc4 (c :: r) = true) : opn (c :: r) = 34 :: 34 :: 34 :: opn (r.drop 3) := by rw [opn, if_pos h]
theorem opn_no {c : Int} {r : List Int} (h : esc4 (c :: r) = false) : opn (c :: r) = c :: opn r := by rw [opn, if_neg (by simp [h])]
theorem grd_nil : grd [] = [] := by rw [grd]
theorem grd_yes {c : Int} {r : List Int} (h : tri (c :: r) = true) : grd (c :: r) = 92 :: 34 :: 34 :: 34 :: grd (r.drop 2) := by rw [grd, if_pos h]
theorem grd_no {c : Int} {r : List Int} (h : tri (c :: r) = false) : grd (c :: r) = c :: grd r := by rw [grd, if_neg (by simp [h])]
theorem tri_form {l : List Int} (h : tri l = true) : ∃ r, l = 34 :: 34 :: 34 :: r := by
  match l, h with
  | a :: b :: c :: r, h =>
    simp [tri] at h
    obtain ⟨rfl, rfl, rfl⟩ := h
    exact ⟨r, rfl⟩
  | [], h => simp [tri] at h
  | [_], h => simp [tri] at h
  | [_, _], h => simp [tri] at h
theorem esc4_form {l : List Int} (h : esc4 l = true) : ∃ r, l = 92 :: 34 :: 34 :: 34 :: r := by
  match l, h with
  | a :: b :: c :: d :: r, h =>
    simp [esc4] at h
    obtain ⟨rfl, rfl, rfl, rfl⟩ := h
    exact ⟨r, rfl⟩
  | [], h => simp [esc4] at h
  | [_], h => simp [esc4] at h
  | [_, _], h => simp [esc4] at h
  | [_, _, _], h => simp [esc4] at h
theorem esc4_tri (c : Int) (l : List Int) : esc4 (c :: l) = (c == 92 && tri l) := by
  unfold esc4 tri
  rw [List.take_succ_cons]
  cases h : (c == 92) <;> simp_all
/-- What is guarded begins with a quote only where it did. -/
theorem grd_quote {l x : List Int} (h : grd l = 34 :: x) : ∃ r, l = 34 :: r ∧ tri l = false ∧ x = grd r := by
  cases l with
  | nil => rw [grd_nil] at h; cases h
  | cons c r =>
    cases ht : tri (c :: r)
    · rw [grd_no ht] at h
      injection h with h1 h2
      exact ⟨r, by rw [h1], rfl, h2.symm⟩
    · rw [grd_yes ht] at h
      injection h with h1 h2
      exact absurd h1 (by decide)
theorem grd_tri (l : List Int) : tri (grd l) = false := by
  cases h : tri (grd l)
  · rfl
  · exfalso
    obtain ⟨x, hx⟩ := tri_form h
    obtain ⟨r, h1, h2, h3⟩ := grd_quote hx
    obtain ⟨r2, h4, h5, h6⟩ := grd_quote h3.symm
    obtain ⟨r3, h7, h8, h9⟩ := grd_quote h6.symm
    rw [h1, h4, h7] at h2
    simp [tri] at h2
theorem opn_grd : ∀ (n : Nat) (l : List Int), l.length ≤ n → opn (grd l) = l
  | _, [], _ => by rw [grd_nil, opn_nil]
  | 0, c :: r, h => by simp at h
  | n + 1, c :: r, h => by
    cases ht : tri (c :: r)
    · rw [grd_no ht, opn_no, opn_grd n r (by simp at h; omega)]
      rw [esc4_tri, grd_tri]
      simp
    · rw [grd_yes ht, opn_yes (by simp [esc4])]
      obtain ⟨x, hx⟩ := tri_form ht
      injection hx with h1 h2
      have := opn_grd n (r.drop 2) (by simp at h ⊢; omega)
      simp only [List.drop_succ_cons, List.drop_zero]
      rw [this, h1, h2]
      rfl
theorem opn_grd' (l : List Int) : opn (grd l) = l := opn_grd l.length l (Nat.le_refl _)
theorem opn_mem : ∀ (n : Nat) (l : List Int), l.length ≤ n → ∀ c ∈ opn l, c ∈ l
  | _, [], _, c, h => by rw [opn_nil] at h; exact h
  | 0, d :: r, hl, _, _ => by simp at hl
  | n + 1, d :: r, hl, c, h => by
    cases he : esc4 (d :: r)
    · rw [opn_no he] at h
      rcases List.mem_cons.1 h with rfl | h2
      · simp
      · exact List.mem_cons_of_mem _ (opn_mem n r (by simp at hl; omega) c h2)
    · rw [opn_yes he] at h
      obtain ⟨x, hx⟩ := esc4_form he
      injection hx with h1 h2
      have ih := opn_mem n (r.drop 3) (by simp at hl ⊢; omega)
      simp only [List.mem_cons] at h
      rcases h with rfl | rfl | rfl | h
      · rw [h2]; simp
      · rw [h2]; simp
      · rw [h2]; simp
      · exact List.mem_cons_of_mem _ (List.mem_of_mem_drop (ih c h))
theorem grd_mem : ∀ (n : Nat) (l : List Int), l.length ≤ n → ∀ c ∈ grd l, c = 92 ∨ c ∈ l
  | _, [], _, c, h => by rw [grd_nil] at h; exact .inr h
  | 0, d :: r, hl, _, _ => by simp at hl
  | n + 1, d :: r, hl, c, h => by
    cases he : tri (d :: r)
    · rw [grd_no he] at h
      rcases List.mem_cons.1 h with rfl | h2
      · simp
      · rcases grd_mem n r (by simp at hl; omega) c h2 with h3 | h3
        · exact .inl h3
        · exact .inr (List.mem_cons_of_mem _ h3)
    · rw [grd_yes he] at h
      obtain ⟨x, hx⟩ := tri_form he
      injection hx with h1 h2
      have ih := grd_mem n (r.drop 2) (by simp at hl ⊢; omega)
      simp only [List.mem_cons] at h
      rcases h with rfl | rfl | rfl | rfl | h
      · exact .inl rfl
      · rw [h1]; simp
      · rw [h1]; simp
      · rw [h1]; simp
      · rcases ih c h with h3 | h3
        · exact .inl h3
        · exact .inr (List.mem_cons_of_mem _ (List.mem_of_mem_drop h3))
theorem grd_flat {l : List Int} (h : flat l) : flat (grd l) := fun c hc => by
  rcases grd_mem l.length l (Nat.le_refl _) c hc with rfl | h2
  · decide
  · exact h c h2
theorem opn_flat {l : List Int} (h : flat l) : flat (opn l) := fun c hc => h c (opn_mem l.length l (Nat.le_refl _) c hc)
/-- Which insides may stand. -/
def std (l : List Int) (q : Nat) (last : Int) : Bool :=
  match l with
  | [] => !(last == 34) && !(last == 92)
  | c :: r => soB c && if esc4 (c :: r) then std (r.drop 3) 0 0 else if (if c = 34 then q + 1 else 0) = 3 then false else std r (if c = 34 then q + 1 else 0) c
termination_by l.length
decreasing_by all_goals (simp; try omega)
theorem std_nil (q : Nat) (last : Int) : std [] q last = (!(last == 34) && !(last == 92)) := by rw [std]
theorem std_yes {c : Int} {r : List Int} (q : Nat) (last : Int) (h : esc4 (c :: r) = true) : std (c :: r) q last = std (r.drop 3) 0 0 := by
  rw [std, if_pos h]
  obtain ⟨x, hx⟩ := esc4_form h
  injection hx with h1 h2
  rw [h1]
  rfl
theorem std_no {c : Int} {r : List Int} (q : Nat) (last : Int) (h : esc4 (c :: r) = false) (hc : c ≠ 34) : std (c :: r) q last = (soB c && std r 0 c) := by
  rw [std, if_neg (by simp [h]), if_neg hc, if_neg (by decide)]
theorem std_quote {r : List Int} (q : Nat) (last : Int) : std (34 :: r) q last = (if q = 2 then false else std r (q + 1) 34) := by
  rw [std, if_neg (by rw [esc4_tri]; simp), if_pos rfl]
  have : soB 34 = true := by decide
  rw [this, Bool.true_and]
  by_cases h : q = 2
  · rw [if_pos h, if_pos (by omega)]
  · rw [if_neg h, if_neg (by omega)]
theorem std_grd : ∀ (n : Nat) (l t : List Int) (q : Nat) (last : Int), l.length ≤ n → q ≤ 2 → (q = 0 ∨ tri (List.replicate q 34 ++ l) = false) → (∀ c ∈ l, soB c = true) → std (grd l ++ 10 :: t) q last = std t 0 10
  | _, [], t, q, last, _, _, _, _ => by
    rw [grd_nil, List.nil_append, std_no q last (by rw [esc4_tri]; simp) (by decide)]
    rfl
  | 0, c :: r, _, _, _, h, _, _, _ => by simp at h
  | n + 1, c :: r, t, q, last, h, hq, hi, hs => by
    have hr : r.length ≤ n := by simp at h; omega
    cases ht : tri (c :: r)
    · rw [grd_no ht, List.cons_append]
      have he : esc4 (c :: (grd r ++ 10 :: t)) = false := by
        rw [esc4_tri]
        cases h3 : tri (grd r ++ 10 :: t)
        · simp
        · exfalso
          obtain ⟨x, hx⟩ := tri_form h3
          have hg := grd_tri r
          revert hx hg
          cases grd r with
          | nil => intro hx; simp at hx
          | cons a y =>
            cases y with
            | nil => intro hx; simp at hx
            | cons b z =>
              cases z with
              | nil => intro hx; simp at hx
              | cons d u =>
                intro hx hg
                simp at hx
                obtain ⟨rfl, rfl, rfl, _⟩ := hx
                simp [tri] at hg
      by_cases hc : c = 34
      · subst hc
        rw [std_quote]
        have hq2 : q ≠ 2 := by
          rintro rfl
          rcases hi with h0 | h0
          · cases h0
          · simp [tri] at h0
        rw [if_neg hq2]
        refine std_grd n r t (q + 1) 34 hr (by omega) (.inr ?_) (fun d hd => hs d (by simp [hd]))
        by_cases q0 : q = 0
        · subst q0
          exact ht
        · have q1 : q = 1 := by omega
          subst q1
          rcases hi with h0 | h0
          · cases h0
          · exact h0
      · rw [std_no q last he hc, hs c (by simp), Bool.true_and]
        exact std_grd n r t 0 c hr (by omega) (.inl rfl) (fun d hd => hs d (by simp [hd]))
    · rw [grd_yes ht, List.cons_append, std_yes q last (by simp [esc4])]
      simp only [List.cons_append, List.drop_succ_cons, List.drop_zero]
      exact std_grd n (r.drop 2) t 0 0 (by simp; omega) (by omega) (.inl rfl) (fun d hd => hs d (List.mem_cons_of_mem _ (List.mem_of_mem_drop hd)))
theorem std_ends : ∀ (L : List (List Int)) (q : Nat) (last : Int), q = 0 → last ≠ 34 → last ≠ 92 → (∀ x ∈ L, ∀ c ∈ x, soB c = true) → std (L.flatMap (fun x => grd x ++ [10])) q last = true
  | [], q, last, _, h1, h2, _ => by
    rw [List.flatMap_nil, std_nil]
    simp [h1, h2]
  | x :: L, q, last, hq, h1, h2, hs => by
    rw [List.flatMap_cons, List.append_assoc, List.singleton_append, std_grd x.length x _ q last (Nat.le_refl _) (by omega) (.inl hq) (hs x (by simp))]
    exact std_ends L 0 10 rfl (by decide) (by decide) (fun z hz => hs z (by simp [hz]))
theorem std_so : ∀ (n : Nat) (l : List Int) (q : Nat) (last : Int), l.length ≤ n → std l q last = true → ∀ c ∈ l, soB c = true
  | _, [], _, _, _, _, c, hc => by cases hc
  | 0, d :: r, _, _, h, _, _, _ => by simp at h
  | n + 1, d :: r, q, last, h, hs, c, hc => by
    cases he : esc4 (d :: r)
    · by_cases h34 : d = 34
      · subst h34
        rw [std_quote] at hs
        split at hs
        · cases hs
        · rcases List.mem_cons.1 hc with rfl | h2
          · decide
          · exact std_so n r _ _ (by simp at h; omega) hs c h2
      · rw [std_no q last he h34, Bool.and_eq_true] at hs
        rcases List.mem_cons.1 hc with rfl | h2
        · exact hs.1
        · exact std_so n r _ _ (by simp at h; omega) hs.2 c h2
    · rw [std_yes q last he] at hs
      obtain ⟨x, hx⟩ := esc4_form he
      rw [hx] at hc
      injection hx with h1 h2
      rw [h2] at hs h
      have ih := std_so n x 0 0 (by simp at h; omega) hs
      simp only [List.mem_cons] at hc
      rcases hc with rfl | rfl | rfl | rfl | hc
      · decide
      · decide
      · decide
      · decide
      · exact ih c hc
end Go.Proofs.Ytgphiollpbahgaa.sv
