import Derived.Test.YtdmfbahnhkdamaaGreatNes6
import Derived.Test.YtdmfbahnhkdamaaGreatNes5
import Derived.Test.YtdmfbahnhkdamaaGreatNes3
namespace Go.Proofs.YtdmfbahnhkdamaaGreat.cu
open Go.ChangeShapes Go.WideShapes Go.ChangeAt Go.RowKit
open ints (hide unhide)
open dt (Dt Kp RowAt Ow Grow)
set_option linter.unusedVariables false
set_option linter.unusedSimpArgs false
theorem infoDz : ∃ i z, Tryz.prog.info? 50 = some i ∧ i.zero = some z ∧ i.size = 4 ∧ i.bytes = 56 ∧ z.cells.size = 4 := by
  have hin : (Tryz.prog.info? 50).map (fun i => (i.bytes, i.size, i.zero.map (·.cells.size))) = some (56, 4, some 4) := by kernel_rfl
  cases hq : Tryz.prog.info? 50 with
  | none => simp [hq] at hin
  | some i =>
    simp [hq] at hin
    obtain ⟨h1, h2, z, hz, h3⟩ := hin
    exact ⟨i, z, rfl, hz, h2, h1, h3⟩
def BrkPD (r : Option (List Dt)) (lo : Nat) (w' : World) (sl : Value) : Prop := match r with | none => sl = .slice none 0 0 | some l => ∃ G, Grow 50 4 w' lo l sl G
/-- directives -/
def dirsF (L : Cu → Option Dt × Cu) : Nat → List Dt → Cu → Option (List Dt) × Cu
  | 0, l, c => (none, c)
  | g + 1, l, c => if c.isP bAt = true then (match (dirS L c).1 with | none => (none, (dirS L c).2) | some d => dirsF L g (l ++ [d]) (dirS L c).2) else (if c.kd = 0 then some l else none, c)
def dirs (L : Cu → Option Dt × Cu) (c : Cu) : Option (List Dt) × Cu := dirsF L c.ts.length [] c
theorem brkF_alive {E : Cu → Option Dt × Cu} (right : ByteArray) (least : Nat) : ∀ (g : Nat) (l : List Dt) (c : Cu), (brkF E right least g l c).1.isSome = true → (brkF E right least g l c).2.kd = 0
  | 0, l, c, h => by cases h
  | g + 1, l, c, h => by
    simp only [brkF] at h ⊢
    by_cases hc : l.length < least ∨ c.isP right = false
    · rw [if_pos hc] at h ⊢
      cases hq : (E c).1 with
      | none => rw [hq] at h; cases h
      | some d => rw [hq] at h; exact brkF_alive right least g _ _ h
    · rw [if_neg hc]
      have hp : c.isP right = true := by cases hp : c.isP right with | true => rfl | false => exact absurd (.inr hp) hc
      show (c.cls right).kd = 0
      unfold Cu.cls
      rw [if_pos hp]
      exact (isP_k hp).1
theorem brk_alive {E : Cu → Option Dt × Cu} {left right : ByteArray} {least : Nat} {c : Cu} (h : (brk E left right least c).1.isSome = true) : (brk E left right least c).2.kd = 0 := by
  unfold brk at h ⊢
  split at h
  · rename_i ho
    rw [if_pos ho]
    exact brkF_alive _ _ _ _ _ h
  · cases h
theorem argsS_alive {L : Cu → Option Dt × Cu} {c : Cu} (h : (argsS L c).1.isSome = true) : (argsS L c).2.kd = 0 := by
  unfold argsS at h ⊢
  split at h
  · rename_i ho
    rw [if_pos ho]
    exact brk_alive h
  · rename_i ho
    rw [if_neg ho]
    by_cases hk : c.kd = 0
    · exact hk
    · rw [if_neg hk] at h; cases h
theorem dirS_alive {L : Cu → Option Dt × Cu} {c : Cu} (h : (dirS L c).1.isSome = true) : (dirS L c).2.kd = 0 := by
  unfold dirS at h ⊢
  cases hq : (argsS L c.take.name).1 with
  | none => rw [hq] at h; cases h
  | some l => exact argsS_alive (by rw [hq]; rfl)
theorem argsS_stp {L : Cu → Option Dt × Cu} (hL : Goes L) {c : Cu} (h : c.Ok) : Stp c (argsS L c).2 := by
  unfold argsS
  split
  · exact (brk_goes (argS_goes hL) bLp bRp 1 c h).1
  · exact Stp.refl h
theorem dirS_stp {L : Cu → Option Dt × Cu} (hL : Goes L) {c : Cu} (h : c.Ok) (hp : c.isP bAt = true) : Stp c (dirS L c).2 ∧ c.ix < (dirS L c).2.ix := by
  have h1 := takeP h hp
  have h2 := name_stp h1.ok
  have h3 := argsS_stp hL h2.ok
  have h4 := (h1.trans h2).trans h3
  have h5 : c.ix < (argsS L c.take.name).2.ix := Nat.lt_of_lt_of_le (Nat.lt_succ_self _) (Nat.le_trans h2.ix h3.ix)
  unfold dirS
  cases (argsS L c.take.name).1 <;> exact ⟨h4, h5⟩
def DirsAt (A : Cu → Option (List Dt) × Cu) (ct : Bool) (c : Cu) : Prop := ∀ (B p : Nat) (w : World), CurAt w B p c → Calls Tryz.prog 8 #[ptr B, .bool ct] w fun e w' => ∃ sl, e = .returned (.tuple #[sl, .bool (A c).1.isSome]) ∧ BrkPD (A c).1 w.heap.size w' sl ∧ CurAt w' B p (A c).2 ∧ Kp B w w'
set_option maxRecDepth 4000 in
set_option maxHeartbeats 4000000 in
theorem dirs_ok (L : Cu → Option Dt × Cu) (ct : Bool) (c : Cu) (hc0 : c.Ok) (hlen : c.ts.length ≤ 1099511627777) (hL : Goes L) (hE : ∀ cc : Cu, cc.Ok → cc.ts = c.ts → c.ix ≤ cc.ix → cc.isP bAt = true → DirAt (dirS L) ct cc) : DirsAt (dirs L) ct c := by
  intro B p w h
  have hB := h.lt
  have hp := h.plt
  have hG : ∀ cc : Cu, cc.Ok → cc.isP bAt = true → Stp cc (dirS L cc).2 ∧ cc.ix < (dirS L cc).2.ix := fun cc h hp => dirS_stp hL h hp
  obtain ⟨R, hR⟩ : ∃ R, R = dirsF L c.ts.length [] c := ⟨_, rfl⟩
  have hs := hide (show dirs L c = R from hR.symm)
  have HR := hide hR.symm
  have HC0 := hide h
  clear h hR
  have hip := hide (fun W (cc : Cu) (hc : CurAt W B p cc) => isPunct_ok B p cc bAt W hc)
  have hdd := hide (fun W (cc : Cu) (hc : CurAt W B p cc) => dead_ok B p cc W hc)
  have hEE := hide (fun (cc : Cu) (h1 : cc.Ok) (h2 : cc.ts = c.ts) (h3 : c.ix ≤ cc.ix) h4 => hE cc h1 h2 h3 h4 B p)
  clear hE
  unfold ptr at hip hdd hEE ⊢
  go_enter Tryz.func8, Tryz.ntmps8
  go_wp2_with fail
  go_loopg [6] c.ts.length (fun g sl wr => ∃ (l : List Dt) (cc : Cu) (Gs : List Nat), Hid (dirsF L g l cc = R) ∧ CurAt wr B p cc ∧ Hid (Grow 50 4 wr w.heap.size l sl Gs) ∧ Kp B w wr ∧ Hid (cc.ts = c.ts) ∧ c.ts.length ≤ g + cc.ix ∧ l.length + c.ix ≤ cc.ix ∧ Hid ((l = [] → sl = .slice none 0 0) ∧ (l ≠ [] → cc.kd = 0)))
  case atStart => exact ⟨[], c, [], HR, unhide HC0, hide Grow.nil, Kp.refl _ _, hide rfl, Nat.le_add_right _ _, by simp, hide ⟨fun _ => rfl, fun h => absurd rfl h⟩⟩
  case round =>
    obtain ⟨l, cc, Gs, hrun, hcc, hgr, hkr, hts, hfu, hll, hnl⟩ := hrel
    have hixl := hcc.ok.lt
    rw [unhide hts] at hixl
    obtain ⟨al, cl, hsl⟩ := (unhide hgr).form
    subst hsl
    obtain ⟨g', rfl⟩ : ∃ g', gk = g' + 1 := ⟨gk - 1, by omega⟩
    have hip2 := hide ((unhide hip) wr cc hcc)
    go_wp2_with fail
    refine (unhide hip2).mono ?_
    rintro e w2 ⟨rfl, b2⟩
    have hc2 := hcc.below b2
    have hgr2 := hide ((unhide hgr).keep b2.size (fun b hb _ => b2.block b hb))
    have hk2 := hkr.trans (Kp.of b2)
    cases hQ : cc.isP bAt
    · have hdd2 := hide ((unhide hdd) w2 cc hc2)
      have hrun2 := hide (show ((if cc.kd = 0 then some l else none), cc) = R from by
        have e := unhide hrun
        rw [dirsF, if_neg (by rw [hQ]; decide)] at e
        exact e)
      clear hrun hip2
      by_cases hk : cc.kd = 0
      · rw [if_pos hk] at hrun2
        rw [show (cc.kd != 0) = false by simpa using hk] at hdd2
        clear hk
        go_wp2_with fail
        refine (unhide hdd2).mono ?_
        rintro e w3 ⟨rfl, hw⟩
        obtain rfl : w2 = w3 := hw.symm
        go_wp2_with fail
        go_ret2
        rw [unhide hs, ← unhide hrun2]
        exact ⟨_, rfl, ⟨Gs, unhide hgr2⟩, hc2, hk2⟩
      · rw [if_neg hk] at hrun2
        rw [show (cc.kd != 0) = true by simpa using hk] at hdd2
        have hnil := hide ((unhide hnl).1 (Classical.byContradiction fun e => hk ((unhide hnl).2 e)))
        clear hk
        go_wp2_with fail
        refine (unhide hdd2).mono ?_
        rintro e w3 ⟨rfl, hw⟩
        obtain rfl : w2 = w3 := hw.symm
        go_wp2_with fail
        go_ret2
        rw [unhide hs, ← unhide hrun2]
        exact ⟨_, rfl, unhide hnil, hc2, hk2⟩
    · have hrun2 := hide (show (match (dirS L cc).1 with | none => (none, (dirS L cc).2) | some d => dirsF L g' (l ++ [d]) (dirS L cc).2) = R from by
        have e := unhide hrun
        rw [dirsF, if_pos hQ] at e
        exact e)
      have hgo := hG cc hcc.ok hQ
      have hal := fun h => dirS_alive (L := L) (c := cc) h
      have hcall := hide ((unhide hEE) cc hcc.ok (unhide hts) (by omega) hQ w2 hc2)
      go_wp2_with fail
      refine (unhide hcall).mono ?_
      rintro e w3 ⟨cs, F, rfl, hpo, hc3, hk3⟩
      obtain ⟨U, hU⟩ : ∃ U, U = dirS L cc := ⟨_, rfl⟩
      rw [← hU] at hrun2 hgo hpo hc3 hal ⊢
      obtain ⟨r, C⟩ := U
      obtain ⟨nm, ai, ni, ci, ln, co, rfl⟩ := hpo.shape
      clear hcall hU hrun
      have HP := hide hpo
      clear hpo
      have HC3 := hide hc3
      have HK3 := hide hk3
      have hz3 := hk3.size
      cases r with
      | none =>
        have hrun3 := hide (show (none, C) = R from unhide hrun2)
        go_wp2_with fail
        go_ret2
        rw [unhide hs, ← unhide hrun3]
        exact ⟨_, rfl, rfl, (unhide HC3).below ((Below.refl _ _).alloc (Nat.le_refl _) _), (hk2.trans (unhide HK3)).trans (Kp.of ((Below.refl _ _).alloc (Nat.le_refl _) _))⟩
      | some d =>
        have hrun3 := hide (show dirsF L g' (l ++ [d]) C = R from unhide hrun2)
        have hix3 : cc.ix < C.ix := hgo.2
        have hts3 := hgo.1.ts
        have hal3 := hide (show C.kd = 0 from hal rfl)
        have hlt3 := hgo.1.ok.lt
        rw [hts3, unhide hts] at hlt3
        have hgr3 := (unhide hgr2).kp (unhide HK3) hB
        obtain ⟨it, zt, q1, q2, q3, q4, q5⟩ := infoDz
        have HQ := hide (And.intro q1 (And.intro q2 (And.intro q3 (And.intro q4 q5))))
        clear q1 q2 q3 q4 q5
        obtain ⟨xss, hr3, hol3, hx3⟩ := hgr3.row
        have hr4 := hide (fun o => World.ownsRow.alloc hr3 o)
        have hbyt := hide (show (l.length + 1) * 56 ≤ 140737488355328 ∧ l.length + 1 ≤ maxLen from ⟨by omega, by unfold maxLen; omega⟩)
        have hsz4 := hide (fun o => show w.heap.size ≤ (w3.alloc o).heap.size from by have := hz3; have := b2.size; have := hkr.size; simp; omega)
        have hone := hide ((unhide HP).own.one)
        have HG := hide (And.intro hgr3 (And.intro hol3 hx3))
        have hTS := hide hts3
        clear hrun2 hgo hts3 hgr3 hr3 hol3 hx3 hal
        go_wp2_with (first
          | (at_builtin; refine dt.wp_snoc (by rfl) _ _ (by rfl) Tryz.underlying45 (unhide HQ).1 (unhide HQ).2.1 (unhide HQ).2.2.1 (unhide HQ).2.2.2.1 (unhide HQ).2.2.2.2 (by omega) w.heap.size l.length xss.flatten _ (by rfl) ((unhide hr4) _) [.string nm, .slice ai ni ci, .int .i64 ln, .int .i64 co] (by rfl) (unhide hone) (w3.heap.size + 1) (by simp) (by rfl) (unhide hbyt).1 (unhide hbyt).2 ((unhide hsz4) _) ?_; intro sl' w7 hr7 b7 hold7 hat7; have H7 := hide (And.intro hr7 (And.intro b7 (And.intro hold7 hat7))); clear hr7 b7 hold7 hat7))
        go_roundg g'
        case rel =>
          obtain ⟨hr7, b7, hold7, hat7⟩ := unhide H7
          obtain ⟨hgr3, hol3, hx3⟩ := unhide HG
          have bA : Below w3.heap.size w3 (w3.alloc (.cells #[.string nm, .slice ai ni ci, .int .i64 ln, .int .i64 co] 50)) := (Below.refl _ _).alloc (Nat.le_refl _) _
          have hgr4 := hgr3.keep bA.size (fun b hb _ => bA.block b hb)
          have hown := fun b (hb : (Value.slice al l.length cl).ownBlock = some b) => (let ⟨_, hr, _⟩ := (unhide hgr2).row; (hr.lt b hb).2)
          have hF3 : ∀ b ∈ F, w2.heap.size ≤ b ∧ b < w3.heap.size := (unhide HP).rng
          have hsz : w.heap.size ≤ w2.heap.size := hk2.size
          have hmore := hgr4.more (dt.OwL.agree (fun w w' e cs F => dt.Ow.agree e cs F) (fun b hb j => dt.cell_blk (bA.block b (hgr3.rng b hb).2) j) hol3) hx3 (ow_below (unhide HP).own bA (fun b hb => (hF3 b hb).2)) (unhide HP).nodup (fun b hb => ⟨by have := (hF3 b hb).1; omega, by have := (hF3 b hb).2; have := bA.size; omega, fun hm => by have := ((unhide hgr2).rng b hm).2; have := (hF3 b hb).1; omega, fun e => by have := hown b e; have := (hF3 b hb).1; omega⟩) (by rfl) hr7 (by have := (hr7.lt); have := b7.size; exact this) hold7 hat7
          have hBs : B < w3.heap.size := by omega
          have hCA := (unhide HC3).below bA
          refine ⟨l ++ [d], C, Gs ++ F, hrun3, ?_, hide hmore, ?_, hide ((unhide hTS).trans (unhide hts)), by omega, by rw [List.length_append]; simp; omega, hide ⟨fun e => by simp at e, fun _ => unhide hal3⟩⟩
          · exact hCA.low b7 hB hp
          · exact ((hk2.trans (unhide HK3)).trans (Kp.of bA)).low b7
        case measure => exact Nat.lt_succ_self _
end Go.Proofs.YtdmfbahnhkdamaaGreat.cu
namespace Go.Proofs.YtdmfbahnhkdamaaGreat.cu
open Go.ChangeShapes Go.WideShapes Go.ChangeAt Go.RowKit
open ints (hide unhide)
open dt (Dt Kp RowAt Ow Grow)
set_option linter.unusedVariables false
set_option linter.unusedSimpArgs false
/-- words in memory -/
structure Wds (w : World) (b n c : Nat) (ws : List ByteArray) : Prop where
  len : ws.length = n
  le : n ≤ c
  lt : b < w.heap.size
  at_ : ∀ i, i < n → w.cell? ⟨b, i, none⟩ = some (.string (ws.getD i em))
theorem Wds.below {w w' : World} {b n c : Nat} {ws : List ByteArray} (h : Wds w b n c ws) (hb : Below w.heap.size w w') : Wds w' b n c ws :=
  ⟨h.len, h.le, Nat.lt_of_lt_of_le h.lt hb.size, fun i hi => (hb.cell (p := ⟨b, i, none⟩) h.lt).trans (h.at_ i hi)⟩
def inW (ws : List ByteArray) (s : ByteArray) : Bool := ws.any (fun x => decide (x = s))
theorem index_ok (b n c : Nat) (ws : List ByteArray) (s : ByteArray) (w : World) (h : Wds w b n c ws) (hn : n ≤ 1048576) :
    Calls Tryz.prog 68 #[.slice (some ⟨b, 0, none⟩) n c, .string s] w fun e w' => ∃ i : Int, e = .returned (.int .i64 i) ∧ decide (0 ≤ i) = inW ws s ∧ w' = w := by
  have HL := hide h.len
  go_enter Tryz.func68, Tryz.ntmps68
  go_wp2_with fail
  go_loopw [8] (fun i wr => ∃ k : Nat, k ≤ n ∧ i = .int .i64 k ∧ w = wr ∧ Hid (∀ j, j < k → ws.getD j em ≠ s)) (fun i _ => n - (intOf i).toNat)
  case atStart => exact ⟨0, Nat.zero_le _, rfl, rfl, hide (fun j hj => by omega)⟩
  case round =>
    obtain ⟨k, hk, rfl, rfl, hno⟩ := hrel
    by_cases hlt : k < n
    · have ki : (k : Int) < (n : Int) := by omega
      have c1 := h.at_ k hlt
      by_cases he : ws.getD k em = s
      · have hin := hide (show inW ws s = true from by
          unfold inW
          have hkl : k < ws.length := by rw [unhide HL]; exact hlt
          rw [List.any_eq_true]
          refine ⟨ws[k], List.getElem_mem hkl, ?_⟩
          rw [List.getD_eq_getElem?_getD, List.getElem?_eq_getElem hkl] at he
          exact decide_eq_true he)
        rw [he] at c1
        clear he
        go_wp2_with fail
        go_ret
        exact ⟨k, rfl, by rw [unhide hin]; simp, rfl⟩
      · have hb : (s.toList == (ws.getD k em).toList) = false := str_neb (fun e => he e.symm)
        have He := hide he
        obtain ⟨x, hx⟩ : ∃ x, x = ws.getD k em := ⟨_, rfl⟩
        rw [← hx] at c1 hb
        clear he hx
        go_wp2_with fail
        refine ⟨⟨k + 1, by omega, by first | rfl | go_num, trivial, hide (fun j hj => ?_)⟩, by simp only [intOf]; omega⟩
        by_cases e : j = k
        · rw [e]; exact unhide He
        · exact unhide hno j (by omega)
    · obtain rfl : k = n := by omega
      have ki : ¬ (k : Int) < (k : Int) := by omega
      have hin := hide (show inW ws s = false from by
        unfold inW
        rw [← Bool.not_eq_true, List.any_eq_true]
        rintro ⟨x, hm, hx⟩
        obtain ⟨j, hj, rfl⟩ := List.mem_iff_getElem.1 hm
        apply unhide hno j (by rw [← unhide HL]; exact hj)
        rw [List.getD_eq_getElem?_getD, List.getElem?_eq_getElem hj]
        exact of_decide_eq_true hx)
      go_wp2_with fail
      go_ret
      exact ⟨-1, rfl, by rw [unhide hin]; rfl, rfl⟩
theorem contains_ok (b n c : Nat) (ws : List ByteArray) (s : ByteArray) (w : World) (h : Wds w b n c ws) (hn : n ≤ 1048576) :
    Calls Tryz.prog 46 #[.slice (some ⟨b, 0, none⟩) n c, .string s] w fun e w' => e = .returned (.bool (inW ws s)) ∧ w' = w := by
  have hi := hide (index_ok b n c ws s w h hn)
  go_enter Tryz.func46, Tryz.ntmps46
  go_wp2_with fail
  refine (unhide hi).mono ?_
  rintro e w1 ⟨i, rfl, hd, rfl⟩
  clear hi
  have Hd := hide hd
  clear hd
  go_wp2_with fail
  go_ret
  exact ⟨by rw [← unhide Hd]; rfl, rfl⟩
end Go.Proofs.YtdmfbahnhkdamaaGreat.cu
namespace Go.Proofs.YtdmfbahnhkdamaaGreat.cu
open Go.ChangeShapes Go.WideShapes Go.ChangeAt Go.RowKit
open ints (hide unhide)
open dt (Dt Kp RowAt Ow Grow)
set_option linter.unusedVariables false
set_option linter.unusedSimpArgs false
def _root_.Go.Proofs.YtdmfbahnhkdamaaGreat.cu.Cu.nmC (c : Cu) (so : Bool) : Cu := if so then c.take else c.stop 70
end Go.Proofs.YtdmfbahnhkdamaaGreat.cu
namespace Go.Proofs.YtdmfbahnhkdamaaGreat.cu
open Go.ChangeShapes Go.WideShapes Go.ChangeAt Go.RowKit
open ints (hide unhide)
open dt (Dt Kp RowAt Ow Grow)
set_option linter.unusedVariables false
set_option linter.unusedSimpArgs false
/-- a cursor that is dead, in this world and in all that grow out of it -/
def Dead (w : World) (v : Value) : Prop := ∀ W, Below w.heap.size w W → Calls Tryz.prog 16 #[v] W fun e w' => e = .returned (.bool true) ∧ w' = W
theorem Dead.below {w w' : World} {v : Value} (h : Dead w v) (hb : Below w.heap.size w w') : Dead w' v := fun W bb => h W (hb.trans (bb.mono hb.size))
end Go.Proofs.YtdmfbahnhkdamaaGreat.cu
namespace Go.Proofs.YtdmfbahnhkdamaaGreat.cu
open Go.ChangeShapes Go.WideShapes Go.ChangeAt Go.RowKit
open ints (hide unhide)
open dt (Dt Kp RowAt Ow Grow)
set_option linter.unusedVariables false
set_option linter.unusedSimpArgs false
end Go.Proofs.YtdmfbahnhkdamaaGreat.cu
namespace Go.Proofs.YtdmfbahnhkdamaaGreat.cu
open dt (Dt Kp RowAt Ow Grow)
set_option linter.unusedVariables false
set_option linter.unusedSimpArgs false
def bOn : ByteArray := ⟨#[111, 110]⟩
end Go.Proofs.YtdmfbahnhkdamaaGreat.cu
namespace Go.Proofs.YtdmfbahnhkdamaaGreat.cu
open dt (Dt)
set_option linter.unusedVariables false
set_option linter.unusedSimpArgs false
theorem stop_kd (c : Cu) (k : Int) (hk : k ≠ 0) : (c.stop k).kd ≠ 0 := by
  unfold Cu.stop
  split
  · exact hk
  · assumption
theorem stop_dead (c : Cu) (k : Int) (h : c.kd ≠ 0) : c.stop k = c := if_neg h
/-- nothing read is a fault -/
def Faults {A : Type} (E : Cu → Option A × Cu) (b : Nat) : Prop := ∀ c, c.Ok → c.ts.length ≤ b + c.ix → (E c).1 = none → (E c).2.kd ≠ 0
theorem brkF_faults {E : Cu → Option Dt × Cu} (hG : Goes E) (b : Nat) (hE : Faults E b) (right : ByteArray) (least : Nat) : ∀ (g : Nat) (l : List Dt) (c : Cu), c.Ok → c.ts.length ≤ b + c.ix → c.ts.length ≤ g + c.ix → (brkF E right least g l c).1 = none → (brkF E right least g l c).2.kd ≠ 0
  | 0, l, c, h, hb, hg, hn => by have := h.lt; omega
  | g + 1, l, c, h, hb, hg, hn => by
    simp only [brkF] at hn ⊢
    split
    · rename_i hc
      rw [if_pos hc] at hn
      cases hq : (E c).1 with
      | none => exact hE c h hb hq
      | some d =>
        rw [hq] at hn
        have h1 := hG c h
        have h2 := h1.2 (by rw [hq]; rfl)
        exact brkF_faults hG b hE right least g _ _ h1.1.ok (by rw [h1.1.ts]; omega) (by rw [h1.1.ts]; omega) hn
    · rename_i hc
      rw [if_neg hc] at hn
      cases hn
theorem opn_kd {c : Cu} {p : ByteArray} (h : c.opB p = false) : (c.opn p).kd ≠ 0 := by
  unfold Cu.opB at h
  unfold Cu.opn
  split
  · rename_i hp
    rw [hp] at h
    simp only [Bool.true_and, decide_eq_false_iff_not] at h
    rw [if_neg h]
    exact stop_kd _ _ (by decide)
  · exact stop_kd _ _ (by decide)
theorem brk_faults {E : Cu → Option Dt × Cu} (hG : Goes E) (b : Nat) (hE : Faults E b) (left right : ByteArray) (least : Nat) (c : Cu) (h : c.Ok) (hb : c.ts.length ≤ b + 1 + c.ix) (hn : (brk E left right least c).1 = none) : (brk E left right least c).2.kd ≠ 0 := by
  unfold brk at hn ⊢
  have ho := opn_stp h left
  split
  · rename_i hB
    rw [if_pos hB] at hn
    have hx := opn_ix hB
    exact brkF_faults hG b hE right least c.ts.length [] _ ho.ok (by rw [ho.ts, hx]; omega) (by rw [ho.ts]; omega) hn
  · rename_i hB
    exact opn_kd (by simpa using hB)
theorem argS_faults {L : Cu → Option Dt × Cu} (b : Nat) (hL : Faults L b) : Faults (argS L) b := by
  intro c h hb hn
  have h1 := name_stp h
  have h2 := want_stp h1.ok bCol
  have h3 := h1.trans h2
  unfold argS at hn ⊢
  cases hq : (L (c.name.want bCol)).1 with
  | none => exact hL _ h3.ok (by rw [h3.ts]; have := h3.ix; omega) hq
  | some v => rw [hq] at hn; cases hn
theorem name_kd {c : Cu} (h : c.isN = false) : c.name.kd ≠ 0 := by
  unfold Cu.name
  rw [h]
  exact stop_kd _ _ (by decide)
theorem litF_faults (ct : Bool) : ∀ f, Faults (litF ct f) f
  | 0 => fun c h hb => by have := h.lt; omega
  | f + 1 => by
    intro c h hb hn
    have ih := litF_faults ct f
    change (litS (litF ct f) ct c).1 = none at hn
    show (litS (litF ct f) ct c).2.kd ≠ 0
    unfold litS at hn ⊢
    split
    · assumption
    rename_i h0
    rw [if_neg h0] at hn
    split
    · rename_i h1; rw [if_pos h1] at hn; cases hn
    rename_i h1; rw [if_neg h1] at hn
    split
    · rename_i h2; rw [if_pos h2] at hn; cases hn
    rename_i h2; rw [if_neg h2] at hn
    split
    · rename_i h3; rw [if_pos h3] at hn; cases hn
    rename_i h3; rw [if_neg h3] at hn
    split
    · rename_i h4; rw [if_pos h4] at hn; cases hn
    rename_i h4; rw [if_neg h4] at hn
    split
    · rename_i h5
      rw [if_pos h5] at hn
      unfold varS at hn ⊢
      split
      · rename_i h6; rw [if_pos h6] at hn; cases hn
      · rename_i h6
        exact name_kd (by simpa using h6)
    rename_i h5; rw [if_neg h5] at hn
    split
    · rename_i h6
      rw [if_pos h6] at hn
      unfold listS at hn ⊢
      cases hq : (brk (litF ct f) bLb bRb 0 c).1 with
      | none => exact brk_faults (litF_goes ct f) f ih bLb bRb 0 c h (by omega) hq
      | some l => rw [hq] at hn; cases hn
    rename_i h6; rw [if_neg h6] at hn
    split
    · rename_i h7
      rw [if_pos h7] at hn
      unfold objS at hn ⊢
      cases hq : (brk (argS (litF ct f)) bLc bRc 0 c).1 with
      | none => exact brk_faults (argS_goes (litF_goes ct f)) f (argS_faults f ih) bLc bRc 0 c h (by omega) hq
      | some l => rw [hq] at hn; cases hn
    · exact stop_kd _ _ (by decide)
mutual
def fvD : Dt → Option (Int × Int)
  | .val (.int .i64 k) (.val _ (.val _ (.lst _ its (.lst _ fls (.val (.int .i64 ln) (.val (.int .i64 co) _)))))) => if k = 1 then some (ln, co) else (fvL its).or (fvG fls)
  | _ => none
def fvL : Dt → Option (Int × Int)
  | .row e r => (fvD e).or (fvL r)
  | _ => none
def fvG : Dt → Option (Int × Int)
  | .row (.val _ v) r => (fvD v).or (fvG r)
  | _ => none
end
end Go.Proofs.YtdmfbahnhkdamaaGreat.cu
namespace Go.Proofs.YtdmfbahnhkdamaaGreat.cu
open dt (Dt)
set_option linter.unusedVariables false
set_option linter.unusedSimpArgs false
/-- two cursors at the same place, over tokens that agree up to number m -/
structure Sim (m : Nat) (c c' : Cu) : Prop where
  ix : c'.ix = c.ix
  op : c'.op = c.op
  mo : c'.mo = c.mo
  kd : c'.kd = c.kd
  ts : ∀ q, q ≤ m → c'.ts[q]? = c.ts[q]?
section
variable {m : Nat}
theorem Sim.tok {c c' : Cu} (h : Sim m c c') (hi : c.ix ≤ m) : c'.tok = c.tok := by
  unfold Cu.tok
  rw [h.ix, List.getD_eq_getElem?_getD, List.getD_eq_getElem?_getD, h.ts _ hi]
theorem Sim.stop {c c' : Cu} (h : Sim m c c') (k : Int) : Sim m (c.stop k) (c'.stop k) := by
  unfold Cu.stop
  rw [h.kd]
  split
  · exact ⟨h.ix, h.op, h.mo, rfl, h.ts⟩
  · exact h
theorem Sim.finB {c c' : Cu} (h : Sim m c c') (hi : c.ix ≤ m) : c'.finB = c.finB := by unfold Cu.finB; rw [h.kd, h.tok hi]
theorem Sim.fin {c c' : Cu} (h : Sim m c c') (hi : c.ix ≤ m) : Sim m c.fin c'.fin := by
  unfold Cu.fin
  rw [h.finB hi]
  split
  · exact h
  · exact h.stop 70
/-- a reading that looks no further than it goes -/
def Near {A : Type} (m : Nat) (E E' : Cu → Option A × Cu) (b b' : Nat) : Prop := ∀ c c', c.Ok → c'.Ok → Sim m c c' → c.ts.length ≤ b + c.ix → c'.ts.length ≤ b' + c'.ix → (E c).2.ix ≤ m → (E' c').1 = (E c).1 ∧ Sim m (E c).2 (E' c').2
end
end Go.Proofs.YtdmfbahnhkdamaaGreat.cu
namespace Go.Proofs.YtdmfbahnhkdamaaGreat.cu
open dt (Dt Kp RowAt Ow Grow)
set_option linter.unusedVariables false
set_option linter.unusedSimpArgs false
theorem Faults.mono {A : Type} {E : Cu → Option A × Cu} {b b' : Nat} (h : Faults E b) (hb : b' ≤ b) : Faults E b' := fun c hc hl hn => h c hc (by omega) hn
theorem isP_dead {c : Cu} (h : c.kd ≠ 0) (p : ByteArray) : c.isP p = false := by unfold Cu.isP; simp [h]
theorem isN_dead {c : Cu} (h : c.kd ≠ 0) : c.isN = false := by unfold Cu.isN; simp [h]
theorem brk_dead (E : Cu → Option Dt × Cu) (l r : ByteArray) (n : Nat) {c : Cu} (h : c.kd ≠ 0) : brk E l r n c = (none, c) := by
  unfold brk Cu.opB Cu.opn
  simp [isP_dead h, stop_dead _ _ h]
end Go.Proofs.YtdmfbahnhkdamaaGreat.cu
