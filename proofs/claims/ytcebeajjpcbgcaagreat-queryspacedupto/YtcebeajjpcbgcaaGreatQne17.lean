import Derived.Test.YtcebeajjpcbgcaaGreatQne16
set_option linter.unusedVariables false
set_option linter.unusedSimpArgs false
namespace Go.Proofs.YtcebeajjpcbgcaaGreat.cu
open Go.ChangeShapes Go.WideShapes Go.ChangeAt Go.RowKit
open ints (hide unhide)
open dt (Dt Kp RowAt Ow Grow OwIn)
theorem infoFd : ∃ i z, Tryz.prog.info? 53 = some i ∧ i.zero = some z ∧ i.size = 9 ∧ i.bytes = 136 ∧ z.cells.size = 9 := by
 have hin : (Tryz.prog.info? 53).map (fun i => (i.bytes, i.size, i.zero.map (·.cells.size))) = some (136, 9, some 9) := by kernel_rfl
 cases hq : Tryz.prog.info? 53 with
 | none => simp [hq] at hin
 | some i =>
  simp [hq] at hin
  obtain ⟨h1, h2, z, hz, h3⟩ := hin
  exact ⟨i, z, rfl, hz, h2, h1, h3⟩
def BrkPG (r : Option (List Dt)) (lo : Nat) (w' : World) (sl : Value) : Prop := match r with | none => ∃ a n c, sl = .slice a n c | some l => ∃ G, Grow 53 9 w' lo l sl G
set_option maxRecDepth 4000 in
set_option maxHeartbeats 4000000 in
theorem definitions_ok (E : Cu → Option Dt × Cu) (c : Cu) (hc0 : c.Ok) (hlen : c.ts.length ≤ 4294967296) (hG : Goes E) (hE : ∀ cc : Cu, cc.Ok → cc.ts = c.ts → DefFn E cc) (B p : Nat) (w : World) (h : CurAt w B p c) :
  Calls Tryz.prog 20 #[par B] w fun e w' => ∃ sl, e = .returned (.tuple #[sl, .bool (defsF E c.ts.length [] c).1.isSome]) ∧ BrkPG (defsF E c.ts.length [] c).1 w.heap.size w' sl ∧ CurAt w' B p (defsF E c.ts.length [] c).2 ∧ Kp B w w' := by
 have hB := h.lt
 have hp := h.plt
 obtain ⟨w0, hw0⟩ : ∃ w0, w0 = w.alloc (.cells #[.pointer (some ⟨B, 0, none⟩)] 83) := ⟨_, rfl⟩
 have b0 : Below w.heap.size w w0 := by rw [hw0]; exact (Below.refl _ _).alloc (Nat.le_refl _) _
 have z0 : w.heap.size + 1 ≤ w0.heap.size := by rw [hw0]; simp
 have p0 : w0.heap[w.heap.size]? = some (.cells #[.pointer (some ⟨B, 0, none⟩)] 83 (0, 0)) := by rw [hw0]; exact heap_alloc_new _ _
 have hc1 := h.below b0
 have K1 := Kp.of (B := B) b0
 have hPc := hide (fun (W : World) (hk : W.heap[w.heap.size]? = some (.cells #[.pointer (some ⟨B, 0, none⟩)] 83 (0, 0))) => show W.cell? ⟨w.heap.size, 0, none⟩ = some (.pointer (some ⟨B, 0, none⟩)) from (dt.cell_cells hk 0).trans rfl)
 obtain ⟨R, hR⟩ : ∃ R, R = defsF E c.ts.length [] c := ⟨_, rfl⟩
 have HR := hide hR.symm
 have hs := hide (show defsF E c.ts.length [] c = R from hR.symm)
 clear h hR
 have hen := hide (fun W (cc : Cu) (hc : CurAt W B p cc) => end_ok B p cc W hc)
 have htk := hide (fun W (cc : Cu) (hc : CurAt W B p cc) => token_ok B p cc W hc)
 have hEE := hide (fun (cc : Cu) (h1 : cc.Ok) (h2 : cc.ts = c.ts) => hE cc h1 h2 B p)
 clear hE
 unfold ptr at hen htk
 unfold par at hEE ⊢
 go_enter Tryz.func20, Tryz.ntmps20
 go_wp2_with fail
 rw [← hw0]
 clear hw0
 go_loopg [4] c.ts.length (fun g sl wr => ∃ (l : List Dt) (cc : Cu) (Gs : List Nat), Hid (defsF E g l cc = R) ∧ CurAt wr B p cc ∧ Hid (Grow 53 9 wr (w.heap.size + 1) l sl Gs) ∧ Kp B w wr ∧ Hid (cc.ts = c.ts) ∧ c.ts.length ≤ g + cc.ix ∧ l.length + c.ix ≤ cc.ix ∧ Hid (wr.heap[w.heap.size]? = some (.cells #[.pointer (some ⟨B, 0, none⟩)] 83 (0, 0))) ∧ w.heap.size + 1 ≤ wr.heap.size)
 case atStart => exact ⟨[], c, [], HR, hc1, hide Grow.nil, K1, hide rfl, Nat.le_add_right _ _, by simp, hide p0, by omega⟩
 case round =>
  obtain ⟨l, cc, Gs, hrun, hcc, hgr, hkr, hts, hfu, hll, hpr, hzr⟩ := hrel
  have hixl := hcc.ok.lt
  rw [unhide hts] at hixl
  obtain ⟨al, cl, hsl⟩ := (unhide hgr).form
  subst hsl
  have cP := (unhide hPc) wr (unhide hpr)
  obtain ⟨g', rfl⟩ : ∃ g', gk = g' + 1 := ⟨gk - 1, by omega⟩
  by_cases hl0 : l.length = 0
  ·obtain rfl : l = [] := List.eq_nil_of_length_eq_zero hl0
   obtain ⟨w2, hw2⟩ : ∃ w2, w2 = wr := ⟨_, rfl⟩
   subst hw2
   have b2 := Below.refl w2.heap.size w2
   have hc2 := hcc
   have hgr2 := hgr
   have hk2 := hkr
   have hp2 := hpr
   clear hl0
   have hrun2 := hide (show (match (E cc).1 with | none => (none, (E cc).2) | some d => defsF E g' ([] ++ [d]) (E cc).2) = R from by
    have e := unhide hrun
    rw [defsF, if_pos (.inl rfl)] at e
    exact e)
   have hgo := hG cc hcc.ok
   have hcall := hide ((unhide hEE) cc hcc.ok (unhide hts) w2 hc2)
   go_wp2_with fail
   refine (unhide hcall).mono ?_
   rintro e w3 ⟨cs, F, rfl, hpo, hc3, hk3⟩
   obtain ⟨U, hU⟩ : ∃ U, U = E cc := ⟨_, rfl⟩
   rw [← hU] at hrun2 hgo hpo hc3 ⊢
   obtain ⟨r, C⟩ := U
   obtain ⟨z1, z2, z3, z4, z5, z6, z7, z8, z9, u1, u2, u3, u4, u5, u6, hcs⟩ := hpo.shape
   unfold defC at hcs
   subst hcs
   clear hcall hU hrun
   have HP := hide hpo
   clear hpo
   have HC3 := hide hc3
   have HK3 := hide hk3
   have hz3 := hk3.size
   have hp3 := hide ((hk3.block w.heap.size (by omega) (by omega)).trans (unhide hp2))
   cases r with
   | none =>
    have hrun3 := hide (show (none, C) = R from unhide hrun2)
    go_wp2_with fail
    go_ret2
    rw [unhide hs, ← unhide hrun3]
    exact ⟨_, rfl, ⟨_, _, _, rfl⟩, (unhide HC3).below ((Below.refl _ _).alloc (Nat.le_refl _) _), (hk2.trans (unhide HK3)).trans (Kp.of ((Below.refl _ _).alloc (Nat.le_refl _) _))⟩
   | some d =>
    have hrun3 := hide (show defsF E g' ([] ++ [d]) C = R from unhide hrun2)
    have hix3 : cc.ix < C.ix := hgo.2 rfl
    have hts3 := hgo.1.ts
    have hlt3 := hgo.1.ok.lt
    rw [hts3, unhide hts] at hlt3
    have hgr3 := (unhide hgr2).kp (unhide HK3) (by omega)
    obtain ⟨it, zt, q1, q2, q3, q4, q5⟩ := infoFd
    have HQ := hide (And.intro q1 (And.intro q2 (And.intro q3 (And.intro q4 q5))))
    clear q1 q2 q3 q4 q5
    obtain ⟨xss, hr3, hol3, hx3⟩ := hgr3.row
    have hr4 := hide (fun o => World.ownsRow.alloc hr3 o)
    have hbyt := hide (show (([] : List Dt).length + 1) * 136 ≤ 140737488355328 ∧ ([] : List Dt).length + 1 ≤ maxLen from ⟨by omega, by unfold maxLen; omega⟩)
    have hsz4 := hide (fun o => show w.heap.size + 1 ≤ (w3.alloc o).heap.size from by have := hz3; have := b2.size; simp; omega)
    have how := (unhide HP).own d rfl
    have hone := hide (how.1.one)
    have HW := hide how
    have HG := hide (And.intro hgr3 (And.intro hol3 hx3))
    have hTS := hide hts3
    clear hrun2 hgo hts3 hgr3 hr3 hol3 hx3 how
    go_wp2_with (first
     | (at_builtin; refine dt.wp_snoc (by rfl) _ _ (by rfl) Tryz.underlying32 (unhide HQ).1 (unhide HQ).2.1 (unhide HQ).2.2.1 (unhide HQ).2.2.2.1 (unhide HQ).2.2.2.2 (by omega) (w.heap.size + 1) ([] : List Dt).length xss.flatten _ (by rfl) ((unhide hr4) _) [.int .i64 z1, .string z2, .string z3, .bool z4, .slice z5 z6 z7, .slice z8 z9 u1, .slice u2 u3 u4, .int .i64 u5, .int .i64 u6] (by rfl) (unhide hone) (w3.heap.size + 1) (by simp) (by rfl) (unhide hbyt).1 (unhide hbyt).2 ((unhide hsz4) _) ?_; intro sl' w7 hr7 b7 hold7 hat7; have H7 := hide (And.intro hr7 (And.intro b7 (And.intro hold7 hat7))); clear hr7 b7 hold7 hat7))
    go_roundg g'
    case rel =>
     obtain ⟨hr7, b7, hold7, hat7⟩ := unhide H7
     obtain ⟨hgr3, hol3, hx3⟩ := unhide HG
     obtain ⟨w1', w2', w3'⟩ := unhide HW
     have bA : Below w3.heap.size w3 (w3.alloc (.cells #[.int .i64 z1, .string z2, .string z3, .bool z4, .slice z5 z6 z7, .slice z8 z9 u1, .slice u2 u3 u4, .int .i64 u5, .int .i64 u6] 53)) := (Below.refl _ _).alloc (Nat.le_refl _) _
     have hgr4 := hgr3.keep bA.size (fun b hb _ => bA.block b hb)
     have hown := fun b (hb : (Value.slice al ([] : List Dt).length cl).ownBlock = some b) => (let ⟨_, hr, _⟩ := (unhide hgr2).row; (hr.lt b hb).2)
     have hsz : w.heap.size ≤ w2.heap.size := hk2.size
     have hmore := hgr4.more (dt.OwL.agree (fun w w' e cs F => dt.Ow.agree e cs F) (fun b hb j => dt.cell_blk (bA.block b (hgr3.rng b hb).2) j) hol3) hx3 (ow_below w1' bA (fun b hb => (w3' b hb).2)) w2' (fun b hb => ⟨by have := (w3' b hb).1; omega, by have := (w3' b hb).2; have := bA.size; omega, fun hm => by have := ((unhide hgr2).rng b hm).2; have := (w3' b hb).1; omega, fun e => by have := hown b e; have := (w3' b hb).1; omega⟩) (by rfl) hr7 (by have := (hr7.lt); have := b7.size; exact this) hold7 hat7
     have hCA := (unhide HC3).below bA
     have b7' := b7.mono (Nat.le_succ w.heap.size)
     refine ⟨[] ++ [d], C, Gs ++ F, hrun3, ?_, hide hmore, ?_, hide ((unhide hTS).trans (unhide hts)), by omega, by rw [List.length_append]; simp; omega, hide ((b7.block w.heap.size (Nat.lt_succ_self _)).trans ((bA.block _ (by omega)).trans (unhide hp3))), by have := b7.size; have := bA.size; omega⟩
     ·exact hCA.low b7' hB hp
     ·exact ((hk2.trans (unhide HK3)).trans (Kp.of bA)).low b7'
    case measure => exact Nat.lt_succ_self _
  ·have hlz : ¬ ((l.length : Int) = 0) := by omega
   have hlz1 : ¬ (l = []) := fun e => hl0 (by rw [e]; rfl)
   have htk2 := hide ((unhide htk) wr cc hcc)
   have hkk := hide (show cc.tok.k = cc.tok.k from rfl)
   obtain ⟨t, et⟩ : ∃ t, t = cc.tok := ⟨_, rfl⟩
   rw [← et] at htk2
   have hf2 := fld_kind t
   have ek : cc.tok.k = t.k := by rw [et]
   have HE := hide ek
   clear et ek hkk
   obtain ⟨k0, x1, x2, x3, x4, x5, x6⟩ := t
   simp only at hf2 HE
   unfold Tk.cells at htk2
   simp only at htk2
   go_wp2_with fail
   refine (unhide htk2).mono ?_
   rintro e w2 ⟨rfl, b2⟩
   have hc2 := hcc.below b2
   have hgr2 := hide ((unhide hgr).keep b2.size (fun b hb _ => b2.block b hb))
   have hk2 := hkr.trans (Kp.of b2)
   have hs2 := b2.size
   have hp2 := hide ((b2.block w.heap.size (by omega)).trans (unhide hpr))
   have cP2 := (unhide hPc) w2 (unhide hp2)
   clear htk2
   by_cases hQ : k0 = 0
   ·subst hQ
    have hrun2 := hide (show ((if cc.finB then some l else none), cc.fin) = R from by
     have e := unhide hrun
     rw [defsF, if_neg (fun e => by rcases e with e | e; exact hl0 e; exact e (unhide HE))] at e
     exact e)
    have hen2 := hide ((unhide hen) w2 cc hc2)
    clear hrun
    obtain ⟨fb, hfb⟩ : ∃ fb, fb = cc.finB := ⟨_, rfl⟩
    rw [← hfb] at hrun2 hen2
    clear hfb
    go_wp2_with fail
    refine (unhide hen2).mono ?_
    rintro e w3 ⟨rfl, hc3, hk3⟩
    clear hen2
    go_wp2_with fail
    go_ret2
    rw [unhide hs, ← unhide hrun2]
    have hgr3 := ((unhide hgr2).kp hk3 (by omega)).lo (Nat.le_succ _)
    cases fb
    ·exact ⟨_, rfl, ⟨_, _, _, rfl⟩, hc3, hk2.trans hk3⟩
    ·exact ⟨_, rfl, ⟨Gs, hgr3⟩, hc3, hk2.trans hk3⟩
   ·have hQ2 : cc.tok.k ≠ 0 := by rw [unhide HE]; exact hQ
    have HQ2 := hide hQ2
    have hQc : (k0 != 0) = true := by simpa using hQ
    have hQb : (k0 == 0) = false := by simpa using hQ
    clear hQ2
    have hrun2 := hide (show (match (E cc).1 with | none => (none, (E cc).2) | some d => defsF E g' (l ++ [d]) (E cc).2) = R from by
     have e := unhide hrun
     rw [defsF, if_pos (.inr (unhide HQ2))] at e
     exact e)
    have hgo := hG cc hcc.ok
    have hcall := hide ((unhide hEE) cc hcc.ok (unhide hts) w2 hc2)
    go_wp2_with fail
    refine (unhide hcall).mono ?_
    rintro e w3 ⟨cs, F, rfl, hpo, hc3, hk3⟩
    obtain ⟨U, hU⟩ : ∃ U, U = E cc := ⟨_, rfl⟩
    rw [← hU] at hrun2 hgo hpo hc3 ⊢
    obtain ⟨r, C⟩ := U
    obtain ⟨z1, z2, z3, z4, z5, z6, z7, z8, z9, u1, u2, u3, u4, u5, u6, hcs⟩ := hpo.shape
    unfold defC at hcs
    subst hcs
    clear hcall hU hrun
    have HP := hide hpo
    clear hpo
    have HC3 := hide hc3
    have HK3 := hide hk3
    have hz3 := hk3.size
    have hp3 := hide ((hk3.block w.heap.size (by omega) (by omega)).trans (unhide hp2))
    cases r with
    | none =>
     have hrun3 := hide (show (none, C) = R from unhide hrun2)
     go_wp2_with fail
     go_ret2
     rw [unhide hs, ← unhide hrun3]
     exact ⟨_, rfl, ⟨_, _, _, rfl⟩, (unhide HC3).below ((Below.refl _ _).alloc (Nat.le_refl _) _), (hk2.trans (unhide HK3)).trans (Kp.of ((Below.refl _ _).alloc (Nat.le_refl _) _))⟩
    | some d =>
     have hrun3 := hide (show defsF E g' (l ++ [d]) C = R from unhide hrun2)
     have hix3 : cc.ix < C.ix := hgo.2 rfl
     have hts3 := hgo.1.ts
     have hlt3 := hgo.1.ok.lt
     rw [hts3, unhide hts] at hlt3
     have hgr3 := (unhide hgr2).kp (unhide HK3) (by omega)
     obtain ⟨it, zt, q1, q2, q3, q4, q5⟩ := infoFd
     have HQ := hide (And.intro q1 (And.intro q2 (And.intro q3 (And.intro q4 q5))))
     clear q1 q2 q3 q4 q5
     obtain ⟨xss, hr3, hol3, hx3⟩ := hgr3.row
     have hr4 := hide (fun o => World.ownsRow.alloc hr3 o)
     have hbyt := hide (show (l.length + 1) * 136 ≤ 140737488355328 ∧ l.length + 1 ≤ maxLen from ⟨by omega, by unfold maxLen; omega⟩)
     have hsz4 := hide (fun o => show w.heap.size + 1 ≤ (w3.alloc o).heap.size from by have := hz3; have := b2.size; simp; omega)
     have how := (unhide HP).own d rfl
     have hone := hide (how.1.one)
     have HW := hide how
     have HG := hide (And.intro hgr3 (And.intro hol3 hx3))
     have hTS := hide hts3
     clear hrun2 hgo hts3 hgr3 hr3 hol3 hx3 how
     go_wp2_with (first
      | (at_builtin; refine dt.wp_snoc (by rfl) _ _ (by rfl) Tryz.underlying32 (unhide HQ).1 (unhide HQ).2.1 (unhide HQ).2.2.1 (unhide HQ).2.2.2.1 (unhide HQ).2.2.2.2 (by omega) (w.heap.size + 1) l.length xss.flatten _ (by rfl) ((unhide hr4) _) [.int .i64 z1, .string z2, .string z3, .bool z4, .slice z5 z6 z7, .slice z8 z9 u1, .slice u2 u3 u4, .int .i64 u5, .int .i64 u6] (by rfl) (unhide hone) (w3.heap.size + 1) (by simp) (by rfl) (unhide hbyt).1 (unhide hbyt).2 ((unhide hsz4) _) ?_; intro sl' w7 hr7 b7 hold7 hat7; have H7 := hide (And.intro hr7 (And.intro b7 (And.intro hold7 hat7))); clear hr7 b7 hold7 hat7))
     go_roundg g'
     case rel =>
      obtain ⟨hr7, b7, hold7, hat7⟩ := unhide H7
      obtain ⟨hgr3, hol3, hx3⟩ := unhide HG
      obtain ⟨w1', w2', w3'⟩ := unhide HW
      have bA : Below w3.heap.size w3 (w3.alloc (.cells #[.int .i64 z1, .string z2, .string z3, .bool z4, .slice z5 z6 z7, .slice z8 z9 u1, .slice u2 u3 u4, .int .i64 u5, .int .i64 u6] 53)) := (Below.refl _ _).alloc (Nat.le_refl _) _
      have hgr4 := hgr3.keep bA.size (fun b hb _ => bA.block b hb)
      have hown := fun b (hb : (Value.slice al l.length cl).ownBlock = some b) => (let ⟨_, hr, _⟩ := (unhide hgr2).row; (hr.lt b hb).2)
      have hsz : w.heap.size ≤ w2.heap.size := hk2.size
      have hmore := hgr4.more (dt.OwL.agree (fun w w' e cs F => dt.Ow.agree e cs F) (fun b hb j => dt.cell_blk (bA.block b (hgr3.rng b hb).2) j) hol3) hx3 (ow_below w1' bA (fun b hb => (w3' b hb).2)) w2' (fun b hb => ⟨by have := (w3' b hb).1; omega, by have := (w3' b hb).2; have := bA.size; omega, fun hm => by have := ((unhide hgr2).rng b hm).2; have := (w3' b hb).1; omega, fun e => by have := hown b e; have := (w3' b hb).1; omega⟩) (by rfl) hr7 (by have := (hr7.lt); have := b7.size; exact this) hold7 hat7
      have hCA := (unhide HC3).below bA
      have b7' := b7.mono (Nat.le_succ w.heap.size)
      refine ⟨l ++ [d], C, Gs ++ F, hrun3, ?_, hide hmore, ?_, hide ((unhide hTS).trans (unhide hts)), by omega, by rw [List.length_append]; simp; omega, hide ((b7.block w.heap.size (Nat.lt_succ_self _)).trans ((bA.block _ (by omega)).trans (unhide hp3))), by have := b7.size; have := bA.size; omega⟩
      ·exact hCA.low b7' hB hp
      ·exact ((hk2.trans (unhide HK3)).trans (Kp.of bA)).low b7'
     case measure => exact Nat.lt_succ_self _
open dt (Dt Kp RowAt Ow Grow)
theorem there_new (w : World) (cs : Array Value) (t : TypeId) (W : World) (hb : Below (w.alloc (.cells cs t)).heap.size (w.alloc (.cells cs t)) W) : W.there w.heap.size 0 cs.size :=
 dt.there_cells ((hb.block w.heap.size (by simp)).trans (heap_alloc_new w _)) (by simp)
set_option maxRecDepth 4000 in
theorem fault_ok (v : Value) (w : World) (Q : List Value → World → Prop) (hT : ∀ W, Below w.heap.size w W → w.heap.size < W.heap.size → Calls Tryz.prog 33 #[v] W fun e w' => ∃ k a n c, e = .returned (.agg #[.int .i64 k, .slice a n c, .slice none 0 0]) ∧ Q [.int .i64 k, .slice a n c, .slice none 0 0] w' ∧ Below W.heap.size W w')
  (hQ : ∀ cs w1 w2, Q cs w1 → Below w1.heap.size w1 w2 → Q cs w2) (hQ2 : ∀ cs w1 vs, Q cs w1 → Q cs (w1.setCells w.heap.size 0 vs)) :
  Calls Tryz.prog 21 #[v] w fun e w' => ∃ k a n c, e = .returned (.tuple #[.agg #[.int .i64 k, .slice a n c, .slice none 0 0], .bool (k != 0)]) ∧ Q [.int .i64 k, .slice a n c, .slice none 0 0] w' ∧ Below w.heap.size w w' := by
 have bA := hide (fun o => show Below w.heap.size w (w.alloc o) from (Below.refl _ _).alloc (Nat.le_refl _) _)
 have HT := hide hT
 have H1 := hide hQ
 have H2 := hide hQ2
 clear hT hQ hQ2
 go_enter Tryz.func21, Tryz.ntmps21
 go_wp2_with fail
 refine ((unhide HT) _ ((unhide bA) _) (by simp)).mono ?_
 rintro e w1 ⟨k, a, n, c, rfl, hq, b1⟩
 have bw1 := ((unhide bA) _).trans (b1.mono ((unhide bA) _).size)
 have hz1 : w.heap.size < w1.heap.size := by have := b1.size; simp at this; omega
 obtain ⟨Y, hY⟩ : ∃ Y, Y = w1.alloc (.cells #[.int .i64 k, .slice a n c, .slice none 0 0] 39) := ⟨_, rfl⟩
 have bY : Below w1.heap.size w1 Y := by rw [hY]; exact (Below.refl _ _).alloc (Nat.le_refl _) _
 have hYc : Y.heap[w1.heap.size]? = some (.cells #[.int .i64 k, .slice a n c, .slice none 0 0] 39 (0, 0)) := by rw [hY]; exact heap_alloc_new w1 _
 have hYs : w1.heap.size < Y.heap.size := by rw [hY]; simp
 have b1Y := b1.trans (bY.mono b1.size)
 have bwY := bw1.trans (bY.mono bw1.size)
 have HQ := (unhide H1) _ _ Y hq bY
 go_wp2_with fail
 rw [← hY]
 clear hY b1 bw1 hq HT bA bY
 have bD : Below Y.heap.size Y { Y with drawn := Y.drawn + 1 } := (Below.refl _ _).drew
 have hS0 : Below w.heap.size w { Y with drawn := Y.drawn + 1 } ∧ ({ Y with drawn := Y.drawn + 1 } : World).heap[w1.heap.size]? = some (.cells #[.int .i64 k, .slice a n c, .slice none 0 0] 39 (0, 0)) := ⟨bwY.trans (bD.mono bwY.size), (bD.block _ hYs).trans hYc⟩
 have hth : ({ Y with drawn := Y.drawn + 1 } : World).there w.heap.size 0 3 := there_new w #[.int .i64 0, .slice none 0 0, .slice none 0 0] 39 _ (b1Y.trans (bD.mono b1Y.size))
 have HQ2 := (unhide H1) _ _ { Y with drawn := Y.drawn + 1 } HQ bD
 refine wp_region_noPanic ?_
 refine wp_region_held (S := fun w' => Below w.heap.size w w' ∧ w'.heap[w1.heap.size]? = some (.cells #[.int .i64 k, .slice a n c, .slice none 0 0] 39 (0, 0))) mixed ?_
 refine rgn.tl (i := 0) (v := ?v1) rfl (by kernel_rfl) (fun _ _ _ h => h) (by rfl) ?hy1 hS0 ?_
 case hy1 => (intro w' hw'; have q0 := (dt.cell_cells hw'.2 0).trans rfl; have q1 := (dt.cell_cells hw'.2 1).trans rfl; have q2 := (dt.cell_cells hw'.2 2).trans rfl; go_simp; try with_reducible rfl)
 simp only [rgn.l1, rgn.l2, rgn.l3, Act.put, rgn.l4, rgn.l5, rgn.l6]
 refine rgn.tl (i := 1) (v := ?v2) rfl (by kernel_rfl) (fun _ _ _ h => h) (by rfl) ?hy2 hS0 ?_
 case hy2 => (intro w' hw'; go_simp; try with_reducible rfl)
 simp only [rgn.l1, rgn.l2, rgn.l3, Act.put, rgn.l4, rgn.l5, rgn.l6]
 refine rgn.tl (i := 2) (v := ?v3) rfl (by kernel_rfl) (fun _ _ _ h => h) (by rfl) ?hy3 hS0 ?_
 case hy3 => (intro w' hw'; have q0 := (dt.cell_cells hw'.2 0).trans rfl; go_simp; try with_reducible rfl)
 simp only [rgn.l1, rgn.l2, rgn.l3, Act.put, rgn.l4, rgn.l5, rgn.l6]
 refine rgn.tl (i := 3) (v := ?v4) rfl (by kernel_rfl) (fun _ _ _ h => h) (by rfl) ?hy4 hS0 ?_
 case hy4 => (intro w' hw'; go_simp; try with_reducible rfl)
 simp only [rgn.l1, rgn.l2, rgn.l3, Act.put, rgn.l4, rgn.l5, rgn.l6]
 refine rgn.one (i := 4) _ rfl (by kernel_rfl) (by rfl) ?_
 simp only [rgn.l1, rgn.l2, rgn.l3, Act.put, rgn.l4, rgn.l5, rgn.l6]
 refine wp_store_mid 39 _ _ (by rfl) w.heap.size 0 #[.int .i64 k, .slice a n c, .slice none 0 0] (by rfl) (by rfl) hth infoFl (dt.one_cells (cs := [.int .i64 k, .slice a n c, .slice none 0 0]) (by rfl)) ?_
 have hS3 : Below w.heap.size w (({ Y with drawn := Y.drawn + 1 } : World).setCells w.heap.size 0 [.int .i64 k, .slice a n c, .slice none 0 0]) ∧ (({ Y with drawn := Y.drawn + 1 } : World).setCells w.heap.size 0 [.int .i64 k, .slice a n c, .slice none 0 0]).heap[w1.heap.size]? = some (.cells #[.int .i64 k, .slice a n c, .slice none 0 0] 39 (0, 0)) := ⟨dt.below_setCells _ _ _ _ hS0.1 (Nat.le_refl _), (dt.heap_setCells w.heap.size w1.heap.size (by omega) _ 0 _).trans hS0.2⟩
 refine ⟨hS3, ?_⟩
 clear hS0
 have hS0 := hS3
 try simp only [rgn.l1, rgn.l2, rgn.l3, Act.put, rgn.l4, rgn.l5, rgn.l6]
 refine rgn.take (i := 5) _ (.bool (k != 0)) rfl (by kernel_rfl) (by kernel_rfl) (by kernel_rfl) (fun _ _ _ h => h) (by rfl) hS0 (fun w' hw' => by go_simp) ?_
 simp only [rgn.l1, rgn.l2, rgn.l3, Act.put, rgn.l4, rgn.l5, rgn.l6]
 refine wpAnyH_done (by kernel_rfl) ?_ _; refine NoPanic.normal ?_
 go_wp2_with fail
 refine bodyPost_ret (rgn.result_row_tmp rfl _ _ w.heap.size 0 [.int .i64 k, .slice a n c, .slice none 0 0] _ rfl (World.rangeAt_setCells_same _ _ _ _ hth) Tryz.underlying39 rfl infoFl) rfl ?_
 exact ⟨k, a, n, c, rfl, (unhide H2) _ _ _ HQ2, hS3.1⟩
theorem variable_all (N : Nat) (c : Cu) (hc : c.Ok) (h1 : c.ts.length ≤ 4294967296) (h2 : c.ts.length ≤ N) : VarFn (varQ (typF N) (litF true N)) c := by
 have hG := litF_goes true N
 have s1 := varC3_stp hc
 have s2 := s1.trans (typF_goes N _ s1.ok).1
 have s3 := s2.trans (varU_stp hG s2.ok)
 refine variable_ok (typF N) (litF true N) c hc (typF_ok N _ s1.ok (by rw [s1.ts]; omega) (by rw [s1.ts]; omega)) (fun hp => ?_) (dirs_all true N _ s3.ok (by rw [s3.ts]; omega) (by rw [s3.ts]; exact h2))
 have s4 := s2.trans (takeP s2.ok hp)
 exact litF_ok true N _ s4.ok (by rw [s4.ts]; omega) (by rw [s4.ts]; omega)
theorem vars_all (N : Nat) (c : Cu) (hc : c.Ok) (h1 : c.ts.length ≤ 4294967296) (h2 : c.ts.length ≤ N) : VarsAt (brk (varQ (typF N) (litF true N)) bLp bRp 1 c) c := fun B p w h =>
 brkV_ok (varQ (typF N) (litF true N)) c bLp bRp hc h1 (varQ_goes (litF_goes true N)) (fun cc k1 k2 k3 => variable_all N cc k1 (by rw [k2]; exact h1) (by rw [k2]; exact h2)) B p w h
theorem body_all (N : Nat) (k : Int) (nm on : ByteArray) (a1 : Option Addr) (n1 c1 : Nat) (t : Tk) (c : Cu) (hc : c.Ok) (h1 : c.ts.length ≤ 4294967296) (h2 : c.ts.length ≤ N) : BodyAt k nm on a1 n1 c1 t.ln t.co (fun c vs => bodyS (litF false N) (selsF (litF false N) N) k nm on vs t c) c := by
 have hG := litF_goes false N
 have s1 := dirs_stp hG hc
 refine body_ok (litF false N) (selsF (litF false N) N) k nm on a1 n1 c1 t c hc (dirs_all false N c hc (by omega) h2) (selsF_ok N N _ s1.ok (by rw [s1.ts]; exact h1) (by rw [s1.ts]; exact h2) (Nat.le_refl _) (by rw [s1.ts]; omega)) (fun hs => ?_)
 cases hq : (dirs (litF false N) c).1 with
 | some l => exact ⟨l, rfl⟩
 | none =>
  exfalso
  have hk := dirs_faults hG (litF_faults false N) _ hc (by omega) hq
  rw [sels_dead _ _ _ hk] at hs
  cases hs
theorem defN_ok (N : Nat) (c : Cu) (hc : c.Ok) (h1 : c.ts.length ≤ 4294967296) (h2 : c.ts.length ≤ N) : DefFn (defN N) c := by
 have hG := litF_goes false N
 refine definition_ok (typF N) (litF true N) (litF false N) (selsF (litF false N) N) c hc (fun _ => selsF_ok N N c hc h1 h2 (Nat.le_refl _) (by omega)) (fun hw k => ?_) (fun hw => ?_)
 ·have s0 := takeN hc (isW_N hw)
  have s1 := s0.trans (opC_stp s0.ok)
  have s2 := s1.trans (varsS_stp (f := N) (litF_goes true N) s1.ok)
  exact operation_ok (typF N) (litF true N) (litF false N) (selsF (litF false N) N) k c.tok c.take s0.ok (fun _ => vars_all N _ s1.ok (by rw [s1.ts]; exact h1) (by rw [s1.ts]; exact h2)) (fun a1 n1 c1 => body_all N k _ _ a1 n1 c1 c.tok _ s2.ok (by rw [s2.ts]; exact h1) (by rw [s2.ts]; exact h2))
 ·have s0 := takeN hc (isW_N hw)
  have s1 := s0.trans (fragC_stp s0.ok)
  have s2 := s1.trans (fragO_stp s1.ok)
  have s3 := s2.trans (name_stp s2.ok)
  exact fragment_ok (litF false N) (selsF (litF false N) N) c.tok c.take s0.ok (body_all N 4 _ _ none 0 0 c.tok _ s3.ok (by rw [s3.ts]; exact h1) (by rw [s3.ts]; exact h2))
theorem docS_ok (c : Cu) (hc : c.Ok) (h1 : c.ts.length ≤ 4294967296) (B p : Nat) (w : World) (h : CurAt w B p c) :
  Calls Tryz.prog 20 #[par B] w fun e w' => ∃ sl, e = .returned (.tuple #[sl, .bool (docS c).1.isSome]) ∧ BrkPG (docS c).1 w.heap.size w' sl ∧ CurAt w' B p (docS c).2 ∧ Kp B w w' :=
 definitions_ok (defN c.ts.length) c hc h1 (defN_goes _) (fun cc k1 k2 => defN_ok _ cc k1 (by rw [k2]; exact h1) (by rw [k2]; exact Nat.le_refl _)) B p w h
theorem faultC_ok (B p : Nat) (c : Cu) (w : World) (h : CurAt w B p c) : Calls Tryz.prog 21 #[ptr B] w fun e w' => ∃ k a n cp, e = .returned (.tuple #[.agg #[.int .i64 k, .slice a n cp, .slice none 0 0], .bool (k != 0)]) ∧ FltAt (w.heap.size + 1) w' c [.int .i64 k, .slice a n cp, .slice none 0 0] ∧ Below w.heap.size w w' := by
 refine fault_ok (ptr B) w (fun cs W => FltAt (w.heap.size + 1) W c cs) (fun W bb hlt => ?_) (fun cs w1 w2 hq bb => ?_) (fun cs w1 vs hq => ?_)
 ·refine (told_ok B p c W (h.below bb)).mono ?_
  rintro e w' ⟨fs, rfl, hf, b⟩
  unfold FltAt at hf
  by_cases hk : c.kd = 0
  ·rw [if_pos hk] at hf
   subst hf
   exact ⟨0, none, 0, 0, rfl, by unfold FltAt; rw [if_pos hk], b⟩
  ·rw [if_neg hk] at hf
   obtain ⟨x, y1, y2, rfl, y4, y5⟩ := hf
   exact ⟨c.kd, _, 1, 1, rfl, by unfold FltAt; rw [if_neg hk]; exact ⟨x, by omega, y2, rfl, y4, y5⟩, b⟩
 ·unfold FltAt at hq ⊢
  split
  ·rename_i hk; rw [if_pos hk] at hq; exact hq
  ·rename_i hk
   rw [if_neg hk] at hq
   obtain ⟨x, y1, y2, y3, y4, y5⟩ := hq
   exact ⟨x, y1, Nat.lt_of_lt_of_le y2 bb.size, y3, (bb.cell (p := ⟨x, 0, none⟩) y2).trans y4, (bb.cell (p := ⟨x, 1, none⟩) y2).trans y5⟩
 ·unfold FltAt at hq ⊢
  split
  ·rename_i hk; rw [if_pos hk] at hq; exact hq
  ·rename_i hk
   rw [if_neg hk] at hq
   obtain ⟨x, y1, y2, y3, y4, y5⟩ := hq
   exact ⟨x, y1, by rw [dt.size_setCells]; exact y2, y3, (dt.cell_blk (dt.heap_setCells w.heap.size x (by omega) vs 0 w1) _).trans y4, (dt.cell_blk (dt.heap_setCells w.heap.size x (by omega) vs 0 w1) _).trans y5⟩
open mem (Row)
theorem infoDoc : (Tryz.prog.info? 34).map (·.size) = some 1 := by kernel_rfl
def ParPost (R : Option (List Dt) × Cu) (lo : Nat) (w' : World) (sl : Value) (fs : List Value) : Prop :=
 match R.1 with
 | none => sl = .slice none 0 0 ∧ FltAt lo w' R.2 fs
 | some l => (∃ G, Grow 53 9 w' lo l sl G) ∧ fs = [.int .i64 0, .slice none 0 0, .slice none 0 0]
set_option maxRecDepth 4000 in
set_option maxHeartbeats 2000000 in
theorem parse_ok (a : Option Addr) (n c : Nat) (z : List Int) (d : Int) (w : World) (h : Row .u8 w a n c z) (hn : n ≤ 1073741824) (hz : mem.Byt z) (hd : (Lit.int .i64 d).wf = true) :
  Calls Tryz.prog 9 #[.slice a n c, .int .i64 d] w fun e w' => ∃ sl fs, e = .returned (.tuple #[.agg #[sl], .agg fs.toArray]) ∧ ParPost (docS (newG z d)) w.heap.size w' sl fs ∧ Below w.heap.size w w' := by
 have hN := hide (fun W (bb : Below w.heap.size w W) => newG_ok a n c z d W (h.below bb) (by omega) hz hd)
 have hok := newG_ok' z d
 have hl : (newG z d).ts.length ≤ 4294967296 := by have := toks_len z hz; rw [h.len] at this; show (lx.toks z).length ≤ _; omega
 have hD := hide (fun B p W (hc : CurAt W B p (newG z d)) => docS_ok (newG z d) hok hl B p W hc)
 obtain ⟨C0, hC0⟩ : ∃ C0, C0 = newG z d := ⟨_, rfl⟩
 rw [← hC0] at hN hD ⊢
 obtain ⟨U, hU⟩ : ∃ U, U = docS C0 := ⟨_, rfl⟩
 rw [← hU] at hD ⊢
 obtain ⟨r, C⟩ := U
 clear h hok hl hC0 hU
 unfold par at hD
 simp only at hD
 go_enter Tryz.func9, Tryz.ntmps9
 go_wp2_with fail
 obtain ⟨W0, hW0⟩ : ∃ W0, W0 = allocs w [(#[.slice none 0 0], 34), (#[.int .i64 0, .slice none 0 0, .slice none 0 0], 39)] := ⟨_, rfl⟩
 have gW0 : W0 = (w.alloc (.cells #[.slice none 0 0] 34)).alloc (.cells #[.int .i64 0, .slice none 0 0, .slice none 0 0] 39) := hW0
 have aa := allocs_at [(#[.slice none 0 0], 34), (#[.int .i64 0, .slice none 0 0, .slice none 0 0], 39)] w
 have f0 : W0.heap[w.heap.size]? = some (.cells #[.slice none 0 0] 34 (0, 0)) := by rw [hW0]; exact aa 0 _ rfl
 have f1 : W0.heap[w.heap.size + 1]? = some (.cells #[.int .i64 0, .slice none 0 0, .slice none 0 0] 39 (0, 0)) := by rw [hW0]; exact aa 1 _ rfl
 have bw : Below w.heap.size w W0 := by rw [hW0]; exact allocs_below _ _
 have sz0 : w.heap.size + 2 ≤ W0.heap.size := by rw [hW0, allocs_size]; exact Nat.le_refl _
 rw [← gW0]
 clear gW0 hW0 aa
 refine ((unhide hN) W0 bw).mono ?_
 rintro e w1 ⟨B, p, rfl, hB, hp0, hc1, b1⟩
 have hBl := hc1.lt
 have hpl := hc1.plt
 have sz1 := b1.size
 obtain ⟨W2, hW2⟩ : ∃ W2, W2 = w1.alloc (.cells #[.pointer (some ⟨B, 0, none⟩)] 83) := ⟨_, rfl⟩
 have b2 : Below w1.heap.size w1 W2 := by rw [hW2]; exact (Below.refl _ _).alloc (Nat.le_refl _) _
 have g2 : W2.heap[w1.heap.size]? = some (.cells #[.pointer (some ⟨B, 0, none⟩)] 83 (0, 0)) := by rw [hW2]; exact heap_alloc_new _ _
 have sz2 : w1.heap.size + 1 ≤ W2.heap.size := by rw [hW2]; simp
 have hc2 := hc1.below b2
 have bw2 := b1.trans (b2.mono b1.size)
 clear hN hc1
 unfold ptr
 go_wp2_with fail
 rw [← hW2]
 clear hW2
 refine ((unhide hD) B p W2 hc2).mono ?_
 rintro e w3 ⟨sl, rfl, hbp, hc3, hk3⟩
 have sz3 := hk3.size
 have b03 : Below W0.heap.size W0 w3 := bw2.trans (hk3.below (by omega) (by omega))
 have F0 := (b03.block w.heap.size (by omega)).trans f0
 have F1 := (b03.block (w.heap.size + 1) (by omega)).trans f1
 have G2 := (hk3.block w1.heap.size (by omega) (by omega)).trans g2
 have cP : w3.cell? ⟨w1.heap.size, 0, none⟩ = some (.pointer (some ⟨B, 0, none⟩)) := (dt.cell_cells G2 0).trans rfl
 have BW := bw.trans (b03.mono bw.size)
 have HH := hide (And.intro F0 (And.intro F1 BW))
 clear f0 f1 g2 bw b1 b2 bw2 b03 F0 F1 G2 BW hc2 hD hk3
 cases r with
 | none =>
  have hFl := hide (faultC_ok B p C w3 hc3)
  clear hc3 hbp
  unfold ptr at hFl
  go_wp2_with fail
  refine (unhide hFl).mono ?_
  rintro e w4 ⟨k, fa, fn, fc, rfl, hflt, b4⟩
  clear hFl cP
  obtain ⟨F0, F1, BW⟩ := unhide HH
  have sz4 := b4.size
  obtain ⟨W5, hW5⟩ : ∃ W5, W5 = w4.alloc (.cells #[.int .i64 k, .slice fa fn fc, .slice none 0 0] 39) := ⟨_, rfl⟩
  have b5 : Below w4.heap.size w4 W5 := by rw [hW5]; exact (Below.refl _ _).alloc (Nat.le_refl _) _
  have b45 := b4.trans (b5.mono b4.size)
  have g5 : W5.heap[w4.heap.size]? = some (.cells #[.int .i64 k, .slice fa fn fc, .slice none 0 0] 39 (0, 0)) := by rw [hW5]; exact heap_alloc_new _ _
  have hflt5 : FltAt (w3.heap.size + 1) W5 C [.int .i64 k, .slice fa fn fc, .slice none 0 0] := by
   unfold FltAt at hflt ⊢
   split
   ·rename_i hk; rw [if_pos hk] at hflt; exact hflt
   ·rename_i hk
    rw [if_neg hk] at hflt
    obtain ⟨x, y1, y2, y3, y4, y5⟩ := hflt
    exact ⟨x, y1, Nat.lt_of_lt_of_le y2 b5.size, y3, (b5.cell (p := ⟨x, 0, none⟩) y2).trans y4, (b5.cell (p := ⟨x, 1, none⟩) y2).trans y5⟩
  have HFL := hide hflt5
  have F0' := (b45.block w.heap.size (by omega)).trans F0
  have F1' := (b45.block (w.heap.size + 1) (by omega)).trans F1
  have BW' := BW.trans (b45.mono BW.size)
  clear F0 F1 BW hflt hflt5 b4 b5 b45
  have F0 := F0'
  have F1 := F1'
  have BW := BW'
  clear F0' F1' BW'
  go_wp2_with fail
  rw [← hW5]
  clear hW5
  have bD : Below W5.heap.size W5 { W5 with drawn := W5.drawn + 1 } := (Below.refl _ _).drew
  obtain ⟨Y, hY⟩ : ∃ Y, Y = { W5 with drawn := W5.drawn + 1 } := ⟨_, rfl⟩
  rw [← hY] at bD
  have hg4 := (Array.getElem?_eq_some_iff.1 g5).1
  have hS0 : Y.heap[w4.heap.size]? = some (.cells #[.int .i64 k, .slice fa fn fc, .slice none 0 0] 39 (0, 0)) := (bD.block _ hg4).trans g5
  have Y0 := (bD.block w.heap.size (by omega)).trans F0
  have Y1 := (bD.block (w.heap.size + 1) (by omega)).trans F1
  have YB := BW.trans (bD.mono BW.size)
  have hflY : FltAt (w3.heap.size + 1) Y C [.int .i64 k, .slice fa fn fc, .slice none 0 0] := by
   have hflt := unhide HFL
   unfold FltAt at hflt ⊢
   split
   ·rename_i hk; rw [if_pos hk] at hflt; exact hflt
   ·rename_i hk
    rw [if_neg hk] at hflt
    obtain ⟨x, y1, y2, y3, y4, y5⟩ := hflt
    exact ⟨x, y1, Nat.lt_of_lt_of_le y2 bD.size, y3, (bD.cell (p := ⟨x, 0, none⟩) y2).trans y4, (bD.cell (p := ⟨x, 1, none⟩) y2).trans y5⟩
  have hne12 : w.heap.size ≠ w.heap.size + 1 := by omega
  have HT1 : Y.there w.heap.size 0 1 := dt.there_cells Y0 (by decide)
  have HT2 : Y.there (w.heap.size + 1) 0 3 := dt.there_cells Y1 (by decide)
  have HX0 := res2 hne12 [.slice none 0 0] [.int .i64 k, .slice fa fn fc, .slice none 0 0] HT1 HT2
  have hYl := bD.size
  refine wp_region_noPanic ?_
  refine wp_region_held (S := fun w' => w'.heap[w4.heap.size]? = some (.cells #[.int .i64 k, .slice fa fn fc, .slice none 0 0] 39 (0, 0))) mixed ?_
  rw [← hY]
  clear hY
  refine rgn.tl (i := 0) (v := ?v1) rfl (by kernel_rfl) (fun _ _ _ h => h) (by rfl) ?hy1 hS0 ?_
  case hy1 => (intro w' hw'; go_simp; try with_reducible rfl)
  simp only [rgn.l1, rgn.l2, rgn.l3, Act.put, rgn.l4, rgn.l5, rgn.l6]
  refine rgn.tl (i := 1) (v := ?v2) rfl (by kernel_rfl) (fun _ _ _ h => h) (by rfl) ?hy2 hS0 ?_
  case hy2 => (intro w' hw'; have q0 := (dt.cell_cells hw' 0).trans rfl; have q1 := (dt.cell_cells hw' 1).trans rfl; have q2 := (dt.cell_cells hw' 2).trans rfl; go_simp; try with_reducible rfl)
  simp only [rgn.l1, rgn.l2, rgn.l3, Act.put, rgn.l4, rgn.l5, rgn.l6]
  refine rgn.one (i := 2) _ rfl (by kernel_rfl) (by rfl) ?_
  simp only [rgn.l1, rgn.l2, rgn.l3, Act.put, rgn.l4, rgn.l5, rgn.l6]
  refine wp_store_mid 34 _ _ (by rfl) w.heap.size 0 #[.slice none 0 0] (by rfl) (by rfl) HT1 infoDoc (dt.one_cells (cs := [.slice none 0 0]) (by rfl)) ?_
  have hS3 : (Y.setCells w.heap.size 0 [.slice none 0 0]).heap[w4.heap.size]? = some (.cells #[.int .i64 k, .slice fa fn fc, .slice none 0 0] 39 (0, 0)) := (dt.heap_setCells _ _ (by omega) _ _ _).trans hS0
  refine ⟨hS3, ?_⟩
  clear hS0
  have hS0 := hS3
  try simp only [rgn.l1, rgn.l2, rgn.l3, Act.put, rgn.l4, rgn.l5, rgn.l6]
  refine rgn.one (i := 3) _ rfl (by kernel_rfl) (by rfl) ?_
  simp only [rgn.l1, rgn.l2, rgn.l3, Act.put, rgn.l4, rgn.l5, rgn.l6]
  refine wp_store_mid 39 _ _ (by rfl) (w.heap.size + 1) 0 #[.int .i64 k, .slice fa fn fc, .slice none 0 0] (by rfl) (by rfl) HX0.1 infoFl (dt.one_cells (cs := [.int .i64 k, .slice fa fn fc, .slice none 0 0]) (by rfl)) ?_
  have hS4 : ((Y.setCells w.heap.size 0 [.slice none 0 0]).setCells (w.heap.size + 1) 0 [.int .i64 k, .slice fa fn fc, .slice none 0 0]).heap[w4.heap.size]? = some (.cells #[.int .i64 k, .slice fa fn fc, .slice none 0 0] 39 (0, 0)) := (dt.heap_setCells _ _ (by omega) _ _ _).trans hS3
  refine ⟨hS4, ?_⟩
  clear hS0
  have hS0 := hS4
  try simp only [rgn.l1, rgn.l2, rgn.l3, Act.put, rgn.l4, rgn.l5, rgn.l6]
  refine wpAnyH_done (by kernel_rfl) ?_ _; refine NoPanic.normal ?_
  go_wp2_with fail
  refine bodyPost_ret (result_rows2 rfl _ _ w.heap.size 0 [.slice none 0 0] _ rfl HX0.2.1 Tryz.underlying34 rfl infoDoc (w.heap.size + 1) 0 [.int .i64 k, .slice fa fn fc, .slice none 0 0] _ rfl HX0.2.2 Tryz.underlying39 rfl infoFl) rfl ?_
  have BE := dt.below_setCells (w.heap.size + 1) [.int .i64 k, .slice fa fn fc, .slice none 0 0] 0 _ (dt.below_setCells w.heap.size [.slice none 0 0] 0 _ YB (Nat.le_refl _)) (Nat.le_succ _)
  refine ⟨_, _, rfl, ?_, BE⟩
  show _ = _ ∧ FltAt w.heap.size _ C _
  refine ⟨rfl, ?_⟩
  have h1 := (hflY.out (b := w.heap.size) (by omega) 0 [.slice none 0 0]).out (b := w.heap.size + 1) (by omega) 0 [.int .i64 k, .slice fa fn fc, .slice none 0 0]
  unfold FltAt at h1 ⊢
  split
  ·rename_i hk; rw [if_pos hk] at h1; exact h1
  ·rename_i hk
   rw [if_neg hk] at h1
   obtain ⟨x, y1, y2, y3, y4, y5⟩ := h1
   exact ⟨x, by omega, y2, y3, y4, y5⟩
 | some l =>
  obtain ⟨Gs, hgr⟩ := hbp
  obtain ⟨al, cl, hsl⟩ := hgr.form
  subst hsl
  obtain ⟨F0, F1, BW⟩ := unhide HH
  have HG := hide hgr
  clear hgr hc3 cP
  have hne12 : w.heap.size ≠ w.heap.size + 1 := by omega
  have HT1 := hide (show w3.there w.heap.size 0 1 from dt.there_cells F0 (by decide))
  have HT2 := hide (show w3.there (w.heap.size + 1) 0 3 from dt.there_cells F1 (by decide))
  have HX0 := res2 hne12 [.slice al l.length cl] [.int .i64 0, .slice none 0 0, .slice none 0 0] (unhide HT1) (unhide HT2)
  obtain ⟨W6, e6⟩ : ∃ W6, W6 = w3.setCells w.heap.size 0 (#[.slice al l.length cl] : Array Value).toList := ⟨_, rfl⟩
  have HX := hide (show W6.there (w.heap.size + 1) 0 _ ∧ (W6.setCells (w.heap.size + 1) 0 [.int .i64 0, .slice none 0 0, .slice none 0 0]).rangeAt w.heap.size 0 [.slice al l.length cl] ∧ (W6.setCells (w.heap.size + 1) 0 [.int .i64 0, .slice none 0 0, .slice none 0 0]).rangeAt (w.heap.size + 1) 0 [.int .i64 0, .slice none 0 0, .slice none 0 0] from by rw [e6]; exact HX0)
  have E6 := hide e6
  have HB := hide BW
  clear HX0 e6 F0 F1 BW
  go_wp2_with (first
   | (refine wpList_store_mid (by rfl) 34 _ _ (by rfl) w.heap.size 0 #[.slice al l.length cl] (by rfl) (by rfl) (unhide HT1) infoDoc (dt.one_cells (cs := [.slice al l.length cl]) (by rfl)) ?_; rw [← unhide E6])
   | refine wpList_store_mid (by rfl) 39 _ _ (by rfl) (w.heap.size + 1) 0 #[.int .i64 0, .slice none 0 0, .slice none 0 0] (by rfl) (by rfl) (unhide HX).1 infoFl (dt.one_cells (cs := [.int .i64 0, .slice none 0 0, .slice none 0 0]) (by rfl)) ?_)
  refine bodyPost_ret (result_rows2 rfl _ _ w.heap.size 0 [.slice al l.length cl] _ rfl (unhide HX).2.1 Tryz.underlying34 rfl infoDoc (w.heap.size + 1) 0 [.int .i64 0, .slice none 0 0, .slice none 0 0] _ rfl (unhide HX).2.2 Tryz.underlying39 rfl infoFl) rfl ?_
  have BE := dt.below_setCells (w.heap.size + 1) [.int .i64 0, .slice none 0 0, .slice none 0 0] 0 _ (dt.below_setCells w.heap.size [.slice al l.length cl] 0 _ (unhide HB) (Nat.le_refl _)) (Nat.le_succ _)
  have e6 : W6 = w3.setCells w.heap.size 0 [.slice al l.length cl] := unhide E6
  rw [← e6] at BE
  refine ⟨_, _, rfl, ?_, BE⟩
  have hgr := unhide HG
  show (∃ G, Grow _ 9 _ w.heap.size l _ G) ∧ _
  refine ⟨⟨Gs, ?_⟩, rfl⟩
  rw [e6]
  refine (hgr.keep (by rw [dt.size_setCells, dt.size_setCells]; exact Nat.le_refl _) (fun b h1 h2 => ?_)).lo (by omega)
  rw [dt.heap_setCells _ b (by omega), dt.heap_setCells _ b (by omega)]
end Go.Proofs.YtcebeajjpcbgcaaGreat.cu
namespace Go.Proofs.YtcebeajjpcbgcaaGreat.mem
open Go.ChangeShapes Go.WideShapes Go.ChangeAt Go.RowKit
open ints (hide unhide)
end Go.Proofs.YtcebeajjpcbgcaaGreat.mem
namespace Go.Proofs.YtcebeajjpcbgcaaGreat.cu
open Go.ChangeShapes Go.WideShapes Go.ChangeAt Go.RowKit
open ints (hide unhide)
open dt (Dt Kp RowAt Ow Grow OwIn)
open mem (Row)
open lx (toks chs cln)
theorem fails_ok (k : Int) (b : Nat) (x y : Int) (w : World) (h0 : w.cell? ⟨b, 0, none⟩ = some (.int .i64 x)) (h1 : w.cell? ⟨b, 1, none⟩ = some (.int .i64 y)) (hb : b < w.heap.size) :
  Calls Tryz.prog 15 #[.agg #[.int .i64 k, .slice (some ⟨b, 0, none⟩) 1 1, .slice none 0 0], .int .i64 k, .agg #[.int .i64 x, .int .i64 y]] w fun e w' => e = .returned (.bool true) ∧ Below w.heap.size w w' := by
 have t0 : ∀ o o', ((w.alloc o).alloc o').cell? ⟨b, 0, none⟩ = some (.int .i64 x) := fun o o' => ((two_alloc w o o').cell (p := ⟨b, 0, none⟩) hb).trans h0
 have t1 : ∀ o o', ((w.alloc o).alloc o').cell? ⟨b, 1, none⟩ = some (.int .i64 y) := fun o o' => ((two_alloc w o o').cell (p := ⟨b, 1, none⟩) hb).trans h1
 have HB := hide (fun o o' => two_alloc w o o')
 clear h0 h1
 go_enter Tryz.func15, Tryz.ntmps15
 go_wp2_with fail
 go_region
 go_wp2
 go_ret
 exact ⟨rfl, ((unhide HB) _ _).drew⟩

theorem conv_bytes9 (s : ByteArray) (w : World) : ∃ cap W2, (convert 9 22 (.string s)).run Tryz.prog w = .ok (.slice (some ⟨w.heap.size, 0, none⟩) s.size cap) W2 ∧
  Row .u8 W2 (some ⟨w.heap.size, 0, none⟩) s.size cap (mem.bytesZ s) ∧ Below w.heap.size w W2 := by
 have h := run_bytes_of_string (P := Tryz.prog) w 9 22 5 s Tryz.underlying9 Tryz.underlying22 Tryz.underlying5
 refine ⟨_, _, h, ⟨mem.bytesZ_len s, grownCap_ge _ _ _ _, (fun e => by cases e), .inr ⟨w.heap.size, 0, rfl, by simp, fun i hi => ?_⟩⟩, (Below.refl _ _).drew.alloc (Nat.le_refl _) _⟩
 have e : (w.drew.alloc (.cells (bytesRow s (grownCap w s.size 0 5)) 5 ((bytesRow s (grownCap w s.size 0 5)).size, (bytesRow s (grownCap w s.size 0 5)).size + 1))).cell? ⟨w.drew.heap.size, 0 + i, none⟩ = (bytesRow s (grownCap w s.size 0 5))[0 + i]? := World.cell?_alloc_mark _ _ _ _ _
 refine e.trans ?_
 have hi' : i < s.data.size := hi
 unfold bytesRow mem.bytesZ
 rw [Nat.zero_add, Array.getElem?_append_left (by simpa using hi')]
 have e2 : (s.data.toList.map fun b => (b.toNat : Int)).getD i 0 = ((s.data[i]'hi').toNat : Int) := by simp [List.getD, Array.getElem?_eq_getElem hi']
 rw [e2, Array.getElem?_map, Array.getElem?_eq_getElem hi']
 rfl
def src1 : ByteArray := ⟨#[113, 117, 101, 114, 121, 32, 81, 40, 36, 118, 58, 91, 73, 110, 116, 33, 93, 61, 49, 41, 123, 98, 58, 97, 40, 120, 58, 36, 118, 41, 125]⟩
def src2 : ByteArray := ⟨#[123, 97, 125, 125]⟩
def nQ : ByteArray := ⟨#[81]⟩
def nv : ByteArray := ⟨#[118]⟩
def nInt : ByteArray := ⟨#[73, 110, 116]⟩
def nW : ByteArray := ⟨#[33, 93]⟩
def n1 : ByteArray := ⟨#[49]⟩
def nb : ByteArray := ⟨#[98]⟩
def na : ByteArray := ⟨#[97]⟩
def nx : ByteArray := ⟨#[120]⟩
theorem doc1 : (docG (mem.bytesZ src1) 3).1 = some [defD 1 nQ em false [varD nv nInt nW true (litD 2 n1 false .nil .nil 1 19) [] 1 9] [] [selD 1 nb na em [fldD nx (litD 1 nv false .nil .nil 1 28) 1 26] [] [] 1 22] 1 1] := by kernel_rfl
theorem doc2 : (docG (mem.bytesZ src2) 3).1 = none := by kernel_rfl
theorem doc2k : (docG (mem.bytesZ src2) 3).2.kd = 70 ∧ (docG (mem.bytesZ src2) 3).2.tok.ln = 1 ∧ (docG (mem.bytesZ src2) 3).2.tok.co = 4 := by refine ⟨?_, ?_, ?_⟩ <;> kernel_rfl
theorem val_row {w : World} {v : Value} {r : Dt} {cs : List Value} {F : List Nat} (h : Ow w (.val v r) cs F) : ∃ ds, cs = v :: ds ∧ Ow w r ds F := by
 unfold Ow at h
 obtain ⟨ds, h1, _, h2⟩ := h
 exact ⟨ds, h1, h2⟩
theorem lst_row {w : World} {k : Nat} {e r : Dt} {cs : List Value} {F : List Nat} (h : Ow w (.lst k (Dt.of [e]) r) cs F) : ∃ p c ds cs' G F2, cs = .slice (some ⟨p, 0, none⟩) 1 c :: ds ∧ RowAt w p 0 cs' ∧ Ow w e cs' G ∧ Ow w r ds F2 := by
 unfold Ow at h
 obtain ⟨a, n, c, ds, F1, F2, rfl, _, _, _, h4, h5, rfl⟩ := h
 rcases h4 with ⟨_, h4, _⟩ | ⟨p, G, rfl, rfl, h4⟩
 ·exact absurd h4 (by unfold Dt.of; intro e; cases e)
 ·unfold Dt.of OwIn at h4
  obtain ⟨m, cs', G1, G2, rfl, h6, _, h7, h8, rfl⟩ := h4
  unfold Dt.of OwIn at h8
  obtain ⟨rfl, _⟩ := h8
  exact ⟨p, c, ds, cs', G1, F2, rfl, h6, h7, h5⟩
theorem lst_nil {w : World} {k : Nat} {r : Dt} {cs : List Value} {F : List Nat} (h : Ow w (.lst k (Dt.of []) r) cs F) : ∃ a c ds F2, cs = .slice a 0 c :: ds ∧ Ow w r ds F2 := by
 unfold Ow at h
 obtain ⟨a, n, c, ds, F1, F2, rfl, _, _, _, h4, h5, rfl⟩ := h
 rcases h4 with ⟨_, _, rfl, _⟩ | ⟨p, G, rfl, rfl, h4⟩
 ·exact ⟨a, c, ds, F2, rfl, h5⟩
 ·unfold Dt.of OwIn at h4
  obtain ⟨rfl, _⟩ := h4
  exact ⟨_, c, ds, F2, rfl, h5⟩
theorem one_row {w : World} {k : Nat} {d : Dt} {lo hi : Nat} {a : Option Addr} {n c : Nat} {F : List Nat} (h : Sh w k [d] lo hi a n c F) : ∃ p cs G, a = some ⟨p, 0, none⟩ ∧ n = 1 ∧ RowAt w p 0 cs ∧ Ow w d cs G := by
 rcases h.at_ with ⟨_, h4, _⟩ | ⟨p, G, rfl, rfl, h4⟩
 ·exact absurd h4 (by unfold Dt.of; intro e; cases e)
 ·unfold Dt.of OwIn at h4
  obtain ⟨m, cs', G1, G2, h5, h6, _, h7, h8, rfl⟩ := h4
  exact ⟨p, cs', G1, rfl, h.len, h6, h7⟩
end Go.Proofs.YtcebeajjpcbgcaaGreat.cu
