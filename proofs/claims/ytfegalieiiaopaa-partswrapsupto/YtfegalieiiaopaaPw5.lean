import Derived.Test.YtfegalieiiaopaaPw4
import Derived.Test.YtfegalieiiaopaaPw2
import Derived.Deep.RegionHeld3
namespace Go.Proofs.Ytfegalieiiaopaa.cu
open Go.ChangeShapes Go.WideShapes Go.ChangeAt Go.RowKit
open ints (hide unhide)
open dt (Dt Kp RowAt Ow)
open mem (Row)
set_option linter.unusedVariables false
set_option linter.unusedSimpArgs false
theorem infoB : ∃ i z, Try.prog.info? 5 = some i ∧ i.zero = some z ∧ i.size = 1 ∧ i.bytes = 1 ∧ z.cells.size = 1 := by
  have hin : (Try.prog.info? 5).map (fun i => (i.bytes, i.size, i.zero.map (·.cells.size))) = some (1, 1, some 1) := by kernel_rfl
  cases hq : Try.prog.info? 5 with
  | none => simp [hq] at hin
  | some i =>
    simp [hq] at hin
    obtain ⟨h1, h2, z, hz, h3⟩ := hin
    exact ⟨i, z, rfl, hz, h2, h1, h3⟩
def opsL (m : Nat) : List Int := List.replicate m 91
theorem wr_true (pre : List Bool) : wr pre true = wr pre false ++ [33] := by unfold wr; simp [bang]
theorem wr_next' (pre : List Bool) (last : Bool) : wr (pre ++ [last]) false = wr pre last ++ [93] := by unfold wr; simp [bang]
theorem src_bytes (pre : List Bool) (last : Bool) : mem.bytesZ (strOfNums (opsL pre.length) ++ onB ++ strOfNums (wr pre last)) = srcW pre last := by
  have hb : ∀ l : List Int, mem.Byt l → mem.bytesZ (strOfNums l) = l := fun l h => mem.bytesZ_str l h
  have ha : ∀ a b : ByteArray, mem.bytesZ (a ++ b) = mem.bytesZ a ++ mem.bytesZ b := fun a b => by unfold mem.bytesZ; simp [ByteArray.data_append]
  rw [ha, ha, hb _ (by intro z hz; unfold opsL at hz; rw [List.eq_of_mem_replicate hz]; decide), hb _ (by intro z hz; rcases wr_mark pre last z hz with rfl | rfl <;> decide)]
  unfold srcW opsL
  rw [List.append_assoc]
  rfl
theorem row_out {k : IntKind} {w : World} {a : Option Addr} {n c : Nat} {l : List Int} (h : Row k w a n c l) {b : Nat} (hb : ∀ b' off', a = some ⟨b', off', none⟩ → b' ≠ b) (o : Nat) (vs : List Value) : Row k (w.setCells b o vs) a n c l := by
  refine ⟨h.len, h.le, h.nil, ?_⟩
  rcases h.at_ with h0 | ⟨b', off, rfl, hlt, hc⟩
  · exact .inl h0
  · exact .inr ⟨b', off, rfl, by rw [dt.size_setCells]; exact hlt, fun i hi => (dt.cell_blk (dt.heap_setCells b b' (hb b' off rfl) vs o w) _).trans (hc i hi)⟩
theorem result_trt {P : Program} {fn : Func} {p u v : Tmp} {ty : TypeId} (h : fn.results = #[.tmp u, .cell p ty, .tmp v]) (tmps : Array Value) (w : World) (b o : Nat) (cs : List Value) (d : TypeDesc) (hp : tmps.getD p undef = .pointer (some ⟨b, o, none⟩)) (hc : w.rangeAt b o cs)
    (hu : P.underlying ty = some d) (hd : d.isRow = true) (hi : (P.info? ty).map (·.size) = some cs.length) : (results fn tmps).run P w = .ok (.tuple #[tmps.getD u undef, .agg cs.toArray, tmps.getD v undef]) w := by
  have := run_loadVar_mid (P := P) w b o ty cs d hc hu hd hi
  have hp' : tmps[p]?.getD undef = .pointer (some ⟨b, o, none⟩) := by simpa using hp
  simp [results, h, hp', asAddr, this]
/-- what the loop keeps -/
structure Lp (B : Nat) (w : World) (vo vw : Value) (pre : List Bool) (last : Bool) : Prop where
  op : w.ownsRow B 5 1 vo pre.length ((opsL pre.length).map (Value.int .u8))
  wr : w.ownsRow B 5 1 vw (wr pre last).length ((wr pre last).map (Value.int .u8))
  ne : ∀ b, vo.ownBlock = some b → vw.ownBlock ≠ some b
theorem Lp.mark {B : Nat} {w w' : World} {vo vw sl' : Value} {pre : List Bool} {last last' : Bool} {pre' : List Bool} {x : Int} (h : Lp B w vo vw pre last) (hw : cu.wr pre' last' = cu.wr pre last ++ [x]) (hr : w'.ownsRow B 5 1 sl' ((cu.wr pre last).length + 1) ((cu.wr pre last).map (Value.int .u8) ++ [.int .u8 x])) (hold : ∀ b, b < w.heap.size → vw.ownBlock ≠ some b → w'.heap[b]? = w.heap[b]?) (hat : ∀ b, sl'.ownBlock = some b → vw.ownBlock = some b ∨ w.heap.size ≤ b) :
    w'.ownsRow B 5 1 vo pre.length ((opsL pre.length).map (Value.int .u8)) ∧ w'.ownsRow B 5 1 sl' (cu.wr pre' last').length ((cu.wr pre' last').map (Value.int .u8)) ∧ ∀ b, vo.ownBlock = some b → sl'.ownBlock ≠ some b := by
  refine ⟨dt.owns_keep h.op (fun b hb _ ho => hold b hb (h.ne b ho)), ?_, fun b ho hs => ?_⟩
  · rw [hw]; simpa using hr
  · rcases hat b hs with e | e
    · exact h.ne b ho e
    · have := (h.op.lt b ho).2; omega
set_option maxRecDepth 4000 in
set_option maxHeartbeats 2000000 in
theorem wrapped_ok (a : Option Addr) (n c : Nat) (ms : List Int) (w : World) (h : Row .u8 w a n c ms) (hb : mem.Byt ms) (hn : n ≤ 1048576) :
    Calls Try.prog 6 #[.string onB, .slice a n c] w fun e w' => ∃ pre last S, pre.length ≤ n ∧ (wr pre last).length ≤ 2 * n ∧ mem.bytesZ S = srcW pre last ∧ e = .returned (.tuple #[.string S, .agg #[.string onB, .string (toB (wr pre last))], .int .i64 pre.length]) ∧ Below w.heap.size w w' := by
  obtain ⟨it, zt, q1, q2, q3, q4, q5⟩ := infoB
  have HQ := hide (And.intro q1 (And.intro q2 (And.intro q3 (And.intro q4 q5))))
  clear q1 q2 q3 q4 q5
  have hone : ∀ x : Int, Hid (∀ u ∈ [Value.int .u8 x], u.oneCell' = true) := fun x => hide (by intro u hu; simp at hu; subst hu; rfl)
  go_enter Try.func6, Try.ntmps6
  go_wp2_with fail
  have bW0 : Below w.heap.size w (w.alloc (.cells #[Value.string { data := #[] }, .string { data := #[] }] 25)) := (Below.refl _ _).alloc (Nat.le_refl _) _
  have hR0 := hide (heap_alloc_new w (.cells #[Value.string { data := #[] }, .string { data := #[] }] 25))
  have hz0 : w.heap.size < (w.alloc (.cells #[Value.string { data := #[] }, .string { data := #[] }] 25)).heap.size := by simp
  obtain ⟨W0, hW0⟩ : ∃ W0, W0 = w.alloc (.cells #[Value.string { data := #[] }, .string { data := #[] }] 25) := ⟨_, rfl⟩
  rw [← hW0] at bW0 hR0 hz0 ⊢
  clear hW0
  go_loopg [7, 8, 9, 10] (n + 1) (fun g vo vw vh vi wr => ∃ (k : Nat) (pre : List Bool) (last : Bool), k ≤ n ∧ n + 1 ≤ g + k ∧ vi = .int .i64 k ∧ vh = .bool last ∧ Hid (Lp W0.heap.size wr vo vw pre last) ∧ Hid (pre.length ≤ k ∧ (cu.wr pre last).length ≤ 2 * k) ∧ Below W0.heap.size W0 wr)
  case atStart => exact ⟨0, [], false, Nat.zero_le _, by omega, rfl, rfl, hide ⟨World.ownsRow_nil _ _ _ _, World.ownsRow_nil _ _ _ _, fun b e => by cases e⟩, hide ⟨Nat.le_refl _, Nat.le_refl _⟩, Below.refl _ _⟩
  case round =>
    obtain ⟨k, pre, last, hk, hg, rfl, rfl, hlp, hpk, hbr⟩ := hrel
    by_cases hlt : k < n
    · have ki : (k : Int) < (n : Int) := by omega
      rcases h.at_ with h0 | ⟨ab, off, rfl, hab, hcell⟩
      · omega
      have c1 := ((bW0.trans (hbr.mono bW0.size)).cell (p := ⟨ab, off + k, none⟩) hab).trans (hcell k hlt)
      have hx := mem.byt_getD hb k
      obtain ⟨x, ex⟩ : ∃ x, x = ms.getD k 0 := ⟨_, rfl⟩
      rw [← ex] at c1 hx
      clear ex hcell
      have hbd := unhide hpk
      have hsz := hbr.size
      by_cases hpar : x % 2 = 0
      · have hpar1 : ¬ x % 2 = 1 := by omega
        cases last
        · go_wp2_with (first
            | (at_builtin; refine dt.wp_snoc (by rfl) _ _ (by rfl) Try.underlying22 (unhide HQ).1 (unhide HQ).2.1 (unhide HQ).2.2.1 (unhide HQ).2.2.2.1 (unhide HQ).2.2.2.2 (by omega) W0.heap.size (cu.wr pre false).length ((cu.wr pre false).map (Value.int .u8)) _ (by rfl) (unhide hlp).wr [.int .u8 33] (by rfl) (unhide (hone 33)) _ rfl (by rfl) (by omega) (by unfold maxLen; omega) hsz ?_; intro sl' w7 hr7 b7 hold7 hat7; have M7 := hide (Lp.mark (unhide hlp) (wr_true pre) hr7 hold7 hat7); have B7 := hide b7; have c7 := (b7.cell (p := ⟨ab, off + k, none⟩) (show ab < W0.heap.size by omega)).trans c1; clear hr7 b7 hold7 hat7))
          go_roundg (gk - 1)
          case rel =>
            obtain ⟨m1, m2, m3⟩ := unhide M7
            exact ⟨k + 1, pre, true, by omega, by omega, by go_num, rfl, hide ⟨m1, m2, m3⟩, hide ⟨by omega, by rw [wr_true]; simp; omega⟩, hbr.trans (unhide B7)⟩
          case measure => omega
        · go_wp2_with fail
          go_roundg (gk - 1)
          case rel => exact ⟨k + 1, pre, true, by omega, by omega, by go_num, rfl, hlp, hide ⟨by omega, by omega⟩, hbr⟩
          case measure => omega
      · have hpar1 : x % 2 = 1 := by omega
        go_wp2_with (first
          | (at_builtin; refine dt.wp_snoc (by rfl) _ _ (by rfl) Try.underlying22 (unhide HQ).1 (unhide HQ).2.1 (unhide HQ).2.2.1 (unhide HQ).2.2.2.1 (unhide HQ).2.2.2.2 (by omega) W0.heap.size (cu.wr pre last).length ((cu.wr pre last).map (Value.int .u8)) _ (by rfl) (unhide hlp).wr [.int .u8 93] (by rfl) (unhide (hone 93)) _ rfl (by rfl) (by omega) (by unfold maxLen; omega) hsz ?_; intro sl' w7 hr7 b7 hold7 hat7; have M7 := hide (Lp.mark (unhide hlp) (wr_next' pre last) hr7 hold7 hat7); have B7 := hide b7; have hsz7 := Nat.le_trans hsz b7.size; clear hr7 b7 hold7 hat7)
          | (at_builtin; refine dt.wp_snoc (by rfl) _ _ (by rfl) Try.underlying22 (unhide HQ).1 (unhide HQ).2.1 (unhide HQ).2.2.1 (unhide HQ).2.2.2.1 (unhide HQ).2.2.2.2 (by omega) W0.heap.size pre.length ((opsL pre.length).map (Value.int .u8)) _ (by rfl) (unhide M7).1 [.int .u8 91] (by rfl) (unhide (hone 91)) _ rfl (by rfl) (by omega) (by unfold maxLen; omega) hsz7 ?_; intro sl2 w8 hr8 b8 hold8 hat8; have M8 := hide (And.intro hr8 (And.intro hold8 hat8)); have B8 := hide b8; clear hr8 b8 hold8 hat8))
        go_roundg (gk - 1)
        case rel =>
          obtain ⟨m1, m2, m3⟩ := unhide M7
          obtain ⟨r1, r2, r3⟩ := unhide M8
          refine ⟨k + 1, pre ++ [last], false, by omega, by omega, by go_num, rfl, hide ⟨?_, ?_, ?_⟩, hide ⟨by simp; omega, by rw [wr_next']; simp; omega⟩, (hbr.trans (unhide B7)).trans (unhide B8)⟩
          · have e : opsL (pre ++ [last]).length = opsL pre.length ++ [91] := by unfold opsL; simp [List.replicate_succ']
            rw [e]
            simpa using r1
          · exact dt.owns_keep m2 (fun b hb _ ho => r2 b hb (fun e => m3 b e ho))
          · intro b ho hs
            rcases r3 b ho with e | e
            · exact m3 b e hs
            · have := (m2.lt b hs).2; omega
        case measure => omega
    · obtain rfl : k = n := by omega
      obtain ⟨ao, co, rfl, hro⟩ := mem.own_row (unhide hlp).op
      obtain ⟨aw, cw, rfl, hrw⟩ := mem.own_row (unhide hlp).wr
      have s1 := mem.row_string (P := Try.prog) hro 22 9 5 Try.underlying22 Try.underlying5 Try.underlying9
      have s2 := mem.row_string (P := Try.prog) hrw 22 9 5 Try.underlying22 Try.underlying5 Try.underlying9
      have z1 : (strOfNums (opsL pre.length)).size ≤ 1048576 := by rw [strOfNums_size]; unfold opsL; simp; have := (unhide hpk).1; omega
      have z2 : (strOfNums (cu.wr pre last)).size ≤ 2097152 := by rw [strOfNums_size]; have := (unhide hpk).2; omega
      have z3 : onB.size ≤ 2 := by decide
      have hS := hide (show mem.bytesZ (strOfNums (opsL pre.length) ++ onB ++ strOfNums (cu.wr pre last)) = srcW pre last from src_bytes pre last)
      have hth : wr.there w.heap.size 0 2 := dt.there_cells ((hbr.block w.heap.size hz0).trans (unhide hR0)) (by decide)
      have HW := hide (show strOfNums (cu.wr pre last) = toB (cu.wr pre last) from rfl)
      have hcv1 := fun W (hr : Row .u8 W ao pre.length co (opsL pre.length)) => mem.row_string (P := Try.prog) hr 22 9 5 Try.underlying22 Try.underlying5 Try.underlying9
      have hcv2 := fun W (hr : Row .u8 W aw (cu.wr pre last).length cw (cu.wr pre last)) => mem.row_string (P := Try.prog) hr 22 9 5 Try.underlying22 Try.underlying5 Try.underlying9
      obtain ⟨SA, eSA⟩ : ∃ SA, SA = strOfNums (opsL pre.length) := ⟨_, rfl⟩
      obtain ⟨SW, eSW⟩ : ∃ SW, SW = strOfNums (cu.wr pre last) := ⟨_, rfl⟩
      rw [← eSA] at z1 hS hcv1
      rw [← eSW] at z2 hS HW hcv2
      clear eSA eSW s1 s2
      have z4 : (SA ++ onB).size ≤ 1048578 := by rw [size_app]; omega
      have y1 : ¬ 9223372036854775807 < SA.size + onB.size := by omega
      have y2 : ¬ 9223372036854775807 < SA.size + onB.size + SW.size := by omega
      have hnb : ∀ b' off', (ao = some ⟨b', off', none⟩ ∨ aw = some ⟨b', off', none⟩) → b' ≠ w.heap.size := by
        intro b' off' e
        rcases e with e | e
        · have := ((unhide hlp).op.lt b' (by rw [e]; rfl)).1; omega
        · have := ((unhide hlp).wr.lt b' (by rw [e]; rfl)).1; omega
      have HL := hide hlp
      clear hlp
      go_wp2_with fail
      have hS0 : Row .u8 ({ wr with drawn := wr.drawn + 1 } : World) ao pre.length co (opsL pre.length) ∧ Row .u8 ({ wr with drawn := wr.drawn + 1 } : World) aw (cu.wr pre last).length cw (cu.wr pre last) := ⟨hro.below ((Below.refl _ _).drew), hrw.below ((Below.refl _ _).drew)⟩
      refine wp_region_noPanic ?_
      refine wp_region_held (S := fun w' => Row .u8 w' ao pre.length co (opsL pre.length) ∧ Row .u8 w' aw (cu.wr pre last).length cw (cu.wr pre last)) mixed ?_
      refine wpAnyH_take (i := 0) (v := ?v1) rfl (by kernel_rfl) (by kernel_rfl) (by kernel_rfl) (fun _ _ _ h => h) (Or.inl ⟨by rfl, ?hy1⟩) hS0 ?_
      case hy1 => (intro w' hw'; have k1 := hcv1 w' hw'.1; have k2 := hcv2 w' hw'.2; go_simp; try with_reducible rfl)
      simp only [List.getElem_toArray, List.getElem_cons_zero, List.getElem_cons_succ, Act.put, List.setIfInBounds_toArray, List.set_cons_zero, List.set_cons_succ]
      refine wpAnyH_take (i := 1) (v := ?v2) rfl (by kernel_rfl) (by kernel_rfl) (by kernel_rfl) (fun _ _ _ h => h) (Or.inl ⟨by rfl, ?hy2⟩) hS0 ?_
      case hy2 => (intro w' hw'; have k1 := hcv1 w' hw'.1; have k2 := hcv2 w' hw'.2; go_simp; try with_reducible rfl)
      simp only [List.getElem_toArray, List.getElem_cons_zero, List.getElem_cons_succ, Act.put, List.setIfInBounds_toArray, List.set_cons_zero, List.set_cons_succ]
      refine wpAnyH_take (i := 2) (v := ?v3) rfl (by kernel_rfl) (by kernel_rfl) (by kernel_rfl) (fun _ _ _ h => h) (Or.inl ⟨by rfl, ?hy3⟩) hS0 ?_
      case hy3 => (intro w' hw'; have k1 := hcv1 w' hw'.1; have k2 := hcv2 w' hw'.2; go_simp; try with_reducible rfl)
      simp only [List.getElem_toArray, List.getElem_cons_zero, List.getElem_cons_succ, Act.put, List.setIfInBounds_toArray, List.set_cons_zero, List.set_cons_succ]
      refine wpAnyH_take (i := 3) (v := ?v4) rfl (by kernel_rfl) (by kernel_rfl) (by kernel_rfl) (fun _ _ _ h => h) (Or.inl ⟨by rfl, ?hy4⟩) hS0 ?_
      case hy4 => (intro w' hw'; have k1 := hcv1 w' hw'.1; have k2 := hcv2 w' hw'.2; go_simp; try with_reducible rfl)
      simp only [List.getElem_toArray, List.getElem_cons_zero, List.getElem_cons_succ, Act.put, List.setIfInBounds_toArray, List.set_cons_zero, List.set_cons_succ]
      refine wpAnyH_take (i := 4) (v := ?v5) rfl (by kernel_rfl) (by kernel_rfl) (by kernel_rfl) (fun _ _ _ h => h) (Or.inl ⟨by rfl, ?hy5⟩) hS0 ?_
      case hy5 => (intro w' hw'; have k1 := hcv1 w' hw'.1; have k2 := hcv2 w' hw'.2; go_simp; try with_reducible rfl)
      simp only [List.getElem_toArray, List.getElem_cons_zero, List.getElem_cons_succ, Act.put, List.setIfInBounds_toArray, List.set_cons_zero, List.set_cons_succ]
      refine wpAnyH_take (i := 5) (v := ?v6) rfl (by kernel_rfl) (by kernel_rfl) (by kernel_rfl) (fun _ _ _ h => h) (Or.inl ⟨by rfl, ?hy6⟩) hS0 ?_
      case hy6 => (intro w' hw'; have k1 := hcv1 w' hw'.1; have k2 := hcv2 w' hw'.2; go_simp; try with_reducible rfl)
      simp only [List.getElem_toArray, List.getElem_cons_zero, List.getElem_cons_succ, Act.put, List.setIfInBounds_toArray, List.set_cons_zero, List.set_cons_succ]
      refine wpAnyH_take (i := 6) (v := ?v7) rfl (by kernel_rfl) (by kernel_rfl) (by kernel_rfl) (fun _ _ _ h => h) (Or.inl ⟨by rfl, ?hy7⟩) hS0 ?_
      case hy7 => (intro w' hw'; have k1 := hcv1 w' hw'.1; have k2 := hcv2 w' hw'.2; go_simp; try with_reducible rfl)
      simp only [List.getElem_toArray, List.getElem_cons_zero, List.getElem_cons_succ, Act.put, List.setIfInBounds_toArray, List.set_cons_zero, List.set_cons_succ]
      refine wpAnyH_take (i := 7) (v := ?v8) rfl (by kernel_rfl) (by kernel_rfl) (by kernel_rfl) (fun _ _ _ h => h) (Or.inl ⟨by rfl, ?hy8⟩) hS0 ?_
      case hy8 => (intro w' hw'; have k1 := hcv1 w' hw'.1; have k2 := hcv2 w' hw'.2; go_simp; try with_reducible rfl)
      simp only [List.getElem_toArray, List.getElem_cons_zero, List.getElem_cons_succ, Act.put, List.setIfInBounds_toArray, List.set_cons_zero, List.set_cons_succ]
      refine wpAnyH_take (i := 8) (v := ?v9) rfl (by kernel_rfl) (by kernel_rfl) (by kernel_rfl) (fun _ _ _ h => h) (Or.inl ⟨by rfl, ?hy9⟩) hS0 ?_
      case hy9 => (intro w' hw'; have k1 := hcv1 w' hw'.1; have k2 := hcv2 w' hw'.2; go_simp; try with_reducible rfl)
      simp only [List.getElem_toArray, List.getElem_cons_zero, List.getElem_cons_succ, Act.put, List.setIfInBounds_toArray, List.set_cons_zero, List.set_cons_succ]
      refine wpAnyH_take (i := 9) (v := ?v10) rfl (by kernel_rfl) (by kernel_rfl) (by kernel_rfl) (fun _ _ _ h => h) (Or.inl ⟨by rfl, ?hy10⟩) hS0 ?_
      case hy10 => (intro w' hw'; have k1 := hcv1 w' hw'.1; have k2 := hcv2 w' hw'.2; go_simp; try with_reducible rfl)
      simp only [List.getElem_toArray, List.getElem_cons_zero, List.getElem_cons_succ, Act.put, List.setIfInBounds_toArray, List.set_cons_zero, List.set_cons_succ]
      refine wpAnyH_take (i := 10) (v := ?v11) rfl (by kernel_rfl) (by kernel_rfl) (by kernel_rfl) (fun _ _ _ h => h) (Or.inl ⟨by rfl, ?hy11⟩) hS0 ?_
      case hy11 => (intro w' hw'; have k1 := hcv1 w' hw'.1; have k2 := hcv2 w' hw'.2; go_simp; try with_reducible rfl)
      simp only [List.getElem_toArray, List.getElem_cons_zero, List.getElem_cons_succ, Act.put, List.setIfInBounds_toArray, List.set_cons_zero, List.set_cons_succ]
      refine wpAnyH_take (i := 11) (v := ?v12) rfl (by kernel_rfl) (by kernel_rfl) (by kernel_rfl) (fun _ _ _ h => h) (Or.inl ⟨by rfl, ?hy12⟩) hS0 ?_
      case hy12 => (intro w' hw'; have k1 := hcv1 w' hw'.1; have k2 := hcv2 w' hw'.2; go_simp; try with_reducible rfl)
      simp only [List.getElem_toArray, List.getElem_cons_zero, List.getElem_cons_succ, Act.put, List.setIfInBounds_toArray, List.set_cons_zero, List.set_cons_succ]
      refine wpAnyH_take (i := 12) (v := ?v13) rfl (by kernel_rfl) (by kernel_rfl) (by kernel_rfl) (fun _ _ _ h => h) (Or.inl ⟨by rfl, ?hy13⟩) hS0 ?_
      case hy13 => (intro w' hw'; have k1 := hcv1 w' hw'.1; have k2 := hcv2 w' hw'.2; go_simp; try with_reducible rfl)
      simp only [List.getElem_toArray, List.getElem_cons_zero, List.getElem_cons_succ, Act.put, List.setIfInBounds_toArray, List.set_cons_zero, List.set_cons_succ]
      refine wpAnyH_take (i := 13) (v := ?v14) rfl (by kernel_rfl) (by kernel_rfl) (by kernel_rfl) (fun _ _ _ h => h) (Or.inl ⟨by rfl, ?hy14⟩) hS0 ?_
      case hy14 => (intro w' hw'; have k1 := hcv1 w' hw'.1; have k2 := hcv2 w' hw'.2; go_simp; try with_reducible rfl)
      simp only [List.getElem_toArray, List.getElem_cons_zero, List.getElem_cons_succ, Act.put, List.setIfInBounds_toArray, List.set_cons_zero, List.set_cons_succ]
      refine rgn.one (i := 14) _ rfl (by kernel_rfl) (by rfl) ?_
      simp only [List.getElem_toArray, List.getElem_cons_zero, List.getElem_cons_succ, Act.put, List.setIfInBounds_toArray, List.set_cons_zero, List.set_cons_succ]
      refine wp_store_mid 25 _ _ (by rfl) w.heap.size 0 #[.string onB, .string SW] (by rfl) (by rfl) hth infoTr (dt.one_cells (cs := [.string onB, .string SW]) (by rfl)) ?_
      have hS1 : Row .u8 (World.setCells ({ wr with drawn := wr.drawn + 1 } : World) w.heap.size 0 [.string onB, .string SW]) ao pre.length co (opsL pre.length) ∧ Row .u8 (World.setCells ({ wr with drawn := wr.drawn + 1 } : World) w.heap.size 0 [.string onB, .string SW]) aw (cu.wr pre last).length cw (cu.wr pre last) := ⟨row_out hS0.1 (fun b' off' e => hnb b' off' (.inl e)) _ _, row_out hS0.2 (fun b' off' e => hnb b' off' (.inr e)) _ _⟩
      refine ⟨hS1, ?_⟩
      clear hS0
      have hS0 := hS1
      try simp only [List.getElem_toArray, List.getElem_cons_zero, List.getElem_cons_succ, Act.put, List.setIfInBounds_toArray, List.set_cons_zero, List.set_cons_succ]
      refine wpAnyH_take (i := 15) (v := ?v15) rfl (by kernel_rfl) (by kernel_rfl) (by kernel_rfl) (fun _ _ _ h => h) (Or.inl ⟨by rfl, ?hy15⟩) hS0 ?_
      case hy15 => (intro w' hw';  go_simp; try with_reducible rfl)
      simp only [List.getElem_toArray, List.getElem_cons_zero, List.getElem_cons_succ, Act.put, List.setIfInBounds_toArray, List.set_cons_zero, List.set_cons_succ]
      refine wpAnyH_done (by kernel_rfl) ?_ _; refine NoPanic.normal ?_
      have hrg := World.rangeAt_setCells_same ({ wr with drawn := wr.drawn + 1 } : World) w.heap.size 0 [.string onB, .string SW] hth
      have hbX : Below w.heap.size w (World.setCells ({ wr with drawn := wr.drawn + 1 } : World) w.heap.size 0 [.string onB, .string SW]) := dt.below_setCells _ _ _ _ (bW0.trans ((hbr.trans (Below.refl _ _).drew).mono bW0.size)) (Nat.le_refl _)
      obtain ⟨X, eX⟩ : ∃ X, X = World.setCells ({ wr with drawn := wr.drawn + 1 } : World) w.heap.size 0 [.string onB, .string SW] := ⟨_, rfl⟩
      rw [← eX] at hrg hbX ⊢
      clear eX hS0 hS1
      go_wp2
      refine bodyPost_ret (result_trt rfl _ _ w.heap.size 0 [.string onB, .string SW] _ rfl hrg Try.underlying25 rfl infoTr) rfl ?_
      exact ⟨pre, last, SA ++ onB ++ SW, (unhide hpk).1, (unhide hpk).2, unhide hS, by rw [← unhide HW]; rfl, hbX⟩
end Go.Proofs.Ytfegalieiiaopaa.cu
