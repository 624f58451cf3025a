import Derived.Test.YtdfdicgfldcngaaBulk2
import Derived.Test.YtdfdicgfldcngaaPfxL
import Derived.Lib.SlBytesConst
namespace Go.Proofs.Ytdfdicgfldcngaa.mem
open Go.ChangeShapes Go.WideShapes Go.ChangeAt Go.RowKit
open ints (hide unhide)
set_option linter.unusedVariables false

/-- What is known of the script: each element's two lists and its place; N: no list is longer. -/
def Spots (w : World) (a : Option Addr) (n N : Nat) : Prop :=
  n = 0 ∨ ∃ b off, a = some ⟨b, off, none⟩ ∧ b < w.heap.size ∧ ∀ i, i < n → ∃ (aS aR : Option Addr) (nS cS nR cR : Nat) (zS zR : List Int) (x : Int),
    (w.cell? ⟨b, off + i * 3, none⟩ = some (.slice aS nS cS) ∧ w.cell? ⟨b, off + i * 3 + 1, none⟩ = some (.slice aR nR cR) ∧ w.cell? ⟨b, off + i * 3 + 2, none⟩ = some (.int .i64 x)) ∧
    Row .u8 w aS nS cS zS ∧ Row .i32 w aR nR cR zR ∧ Byt zS ∧ nS ≤ N ∧ nR ≤ N
theorem Spots.below {w w' : World} {a : Option Addr} {n N : Nat} (h : Spots w a n N) (hb : Below w.heap.size w w') : Spots w' a n N := by
  rcases h with h0 | ⟨b, off, ha, hlt, hc⟩
  · exact .inl h0
  · refine .inr ⟨b, off, ha, Nat.lt_of_lt_of_le hlt hb.size, fun i hi => ?_⟩
    obtain ⟨aS, aR, nS, cS, nR, cR, zS, zR, x, ⟨k0, k1, k2⟩, rS, rR, r⟩ := hc i hi
    exact ⟨aS, aR, nS, cS, nR, cR, zS, zR, x, ⟨(hb.cell hlt).trans k0, (hb.cell hlt).trans k1, (hb.cell hlt).trans k2⟩, rS.below hb, rR.below hb, r⟩
theorem bulk_agg {H : Type} {d : DataW H} {l : List (DataW H)} (h : d ∈ l) : Rows.uptoBulk d ≤ Rows.uptoBulk (.agg l) := by
  have := bulk_mem h
  simp only [Rows.uptoBulk]
  omega
theorem list_three {α : Type} {l : List α} (h : l.length = 3) : ∃ x y z, l = [x, y, z] := by
  match l, h with
  | [x, y, z], _ => exact ⟨x, y, z, rfl⟩
theorem slice_form {H : Type} {enc : TypeId × Value → H} {P : Program} {w : World} {base : Nat} {held : Bool} {t q : TypeId} {k : IntKind} {fuel : Nat} {v : Value} {y : DataW H × List MemPlace}
    (ht : P.underlying t = some (.slice q)) (hq : P.underlying q = some (.int k)) (cq : P.cellsOf q = 1) (h : DataW.trod enc P w base (fun _ => true) held fuel t [v] = some y) : ∃ a n c, v = .slice a n c := by
  rcases open_ints ht hq cq h with ⟨hcs, _⟩ | ⟨x, l, c, zs, hcs, _⟩
  · simp at hcs
    exact ⟨_, _, _, hcs⟩
  · simp at hcs
    exact ⟨_, _, _, hcs⟩
theorem spots_of {H : Type} {enc : TypeId × Value → H} {w : World} {base : Nat} {held : Bool} {fuel : Nat} {a0 : Option Addr} {len0 cap0 : Nat} {d : DataW H} {p : List MemPlace}
    (h : DataW.trod enc Try.prog w base (fun _ => true) held fuel 22 [.slice a0 len0 cap0] = some (d, p)) :
    Spots w a0 len0 (Rows.uptoBulk d) ∧ len0 ≤ Rows.uptoBulk d := by
  have ce : Try.prog.cellsOf 30 = 3 := by kernel_rfl
  have ce0 : Try.prog.cellsOf 26 = 1 := by kernel_rfl
  have ce1 : Try.prog.cellsOf 28 = 1 := by kernel_rfl
  have ce2 : Try.prog.cellsOf 3 = 1 := by kernel_rfl
  rcases Go.Deep.open_slice Try.underlying22 h with ⟨hcs, _⟩ | ⟨a, len, cap, m, n, D, Pl, hcs, hb, hl, hm, hmm, hx, hcell⟩
  · simp at hcs
    obtain ⟨rfl, rfl, rfl⟩ := hcs
    exact ⟨.inl rfl, Nat.zero_le _⟩
  · simp at hcs
    obtain ⟨rfl, rfl, rfl⟩ := hcs
    simp only [if_true] at hmm
    subst hmm
    simp only [Prod.mk.injEq] at hx
    obtain ⟨hd, _⟩ := hx
    refine ⟨?_, ?_⟩
    · by_cases h0 : len0 = 0
      · exact .inl h0
      · right
        rw [ce] at hcell
        have spot0 : ∃ b off, a = ⟨b, off, none⟩ ∧ b < w.heap.size := by
          obtain ⟨cs', h1, h2⟩ := hcell 0 (by omega)
          obtain ⟨_, hlen, hc⟩ := World.cells?_some h1
          obtain ⟨v, hv⟩ : ∃ v, w.cell? (a.add (0 * 3)) = some v := by
            have := hc 0 (by omega)
            match cs', hlen with
            | [v0, v1, v2], _ => exact ⟨v0, by simpa [Addr.add] using this⟩
          obtain ⟨b, off, spot⟩ := a
          have hspot : spot = none := by simpa [Addr.add] using World.cell?_spot hv
          subst hspot
          exact ⟨b, off, rfl, World.block_lt_of_cell? w _ hv⟩
        obtain ⟨b, off, rfl, hbw⟩ := spot0
        refine ⟨b, off, rfl, hbw, fun i hi => ?_⟩
        obtain ⟨cs', h1, h2⟩ := hcell i (by omega)
        obtain ⟨_, hlen, hc⟩ := World.cells?_some h1
        obtain ⟨y0, y1, y2, n', hD, _, t0, t1, t2⟩ := Go.Deep.trod_struct3 Try.underlying30 h2
        obtain ⟨v0, v1, v2, rfl⟩ := list_three hlen
        have e0 := hc 0 (by omega)
        have e1 := hc 1 (by omega)
        have e2 := hc 2 (by omega)
        rw [Go.Deep.add_add, Addr.add_lit] at e0 e1 e2
        simp only [ce0, List.drop_zero, List.take_succ_cons, List.take_zero] at t0
        simp only [ce1, List.drop_succ_cons, List.drop_zero, List.take_succ_cons, List.take_zero] at t1
        simp only [ce2, List.drop_succ_cons, List.drop_zero, List.take_succ_cons, List.take_zero] at t2
        simp only [List.getElem?_cons_zero, List.getElem?_cons_succ] at e0 e1 e2
        have cu : Try.prog.cellsOf 5 = 1 := by kernel_rfl
        have ci : Try.prog.cellsOf 21 = 1 := by kernel_rfl
        obtain ⟨aS, nS, cS, rfl⟩ := slice_form Try.underlying26 Try.underlying5 cu t0
        obtain ⟨aR, nR, cR, rfl⟩ := slice_form Try.underlying28 Try.underlying21 ci t1
        obtain ⟨x, hv2, _, _⟩ := DataW.trod_int Try.underlying3 t2
        simp only [List.cons.injEq, and_true] at hv2
        subst hv2
        obtain ⟨zS, rS, wS, bS⟩ := row_of Try.underlying26 Try.underlying5 cu (d := y0.1) (p := y0.2) t0
        obtain ⟨zR, rR, wR, bR⟩ := row_of Try.underlying28 Try.underlying21 ci (d := y1.1) (p := y1.2) t1
        have hDi : D i = .agg [y0.1, y1.1, y2.1] := (Prod.mk.inj hD).1
        have hbi : Rows.uptoBulk (D i) ≤ Rows.uptoBulk d := by
          rw [hd]
          exact Nat.le_trans (bulk_mem (List.mem_map.2 ⟨i, by simp [hi], rfl⟩)) (bulk_elems _ _)
        rw [hDi] at hbi
        have q0 : Rows.uptoBulk y0.1 ≤ Rows.uptoBulk d := Nat.le_trans (bulk_agg (by simp)) hbi
        have q1 : Rows.uptoBulk y1.1 ≤ Rows.uptoBulk d := Nat.le_trans (bulk_agg (by simp)) hbi
        exact ⟨aS, aR, nS, cS, nR, cR, zS, zR, x, ⟨e0, by rw [Nat.add_assoc]; exact e1, by rw [Nat.add_assoc]; exact e2⟩, rS, rR, wf_byt wS, Nat.le_trans bS q0, Nat.le_trans bR q1⟩
    · rw [hd]
      refine Nat.le_trans ?_ (bulk_slice _ _)
      simp
theorem pfx_awake : pfxI [97, 49, 50, 46, 120] 1 = (3, 4, 1) := by decide +kernel
theorem numberPrefixes_true (a : Option Addr) (n c N : Nat) (w : World) (h : Spots w a n N) (hN : N ≤ 1048576) (hn : n ≤ 1048576) :
    Calls Try.prog 3 #[.slice a n c] w fun e w' => e = .returned (.bool true) ∧ Below w.heap.size w w' := by
  have kc := fun (w : World) (C : Array Value) (n c : Nat) => Lib.run_convert_bytes_const (P := Try.prog) w 26 5 C n c Try.underlying26 Try.underlying5
  have R1 := hide (fun W : World => row_lit .u8 5 (5, 6) W [97, 49, 50, 46, 120])
  have D1 := hide (fun W => prefix_b _ _ _ _ 1 _ (unhide R1 W) (by simp))
  rw [pfx_awake] at D1
  have AL := hide (fun (W : World) (o : Obj) => (Below.refl W.heap.size W).alloc (Nat.le_refl _) o)
  go_enter Try.func3, Try.ntmps3
  go_wp2_with fail
  refine (unhide D1 _).mono ?_
  rintro e w1 ⟨rfl, hb1⟩
  have B1 : Below w.heap.size w w1 := (unhide AL w _).trans (hb1.mono (by simp))
  clear hb1 D1 R1 kc
  go_wp2
  go_loopw [6] (fun v wr => ∃ k : Nat, k ≤ n ∧ v = .int .i64 k ∧ Below w.heap.size w wr) (fun v _ => n - (intOf v).toNat)
  case atStart => exact ⟨0, Nat.zero_le _, rfl, B1⟩
  case round =>
    obtain ⟨k, hk, rfl, hbk⟩ := hrel
    by_cases hlt : k < n
    · have ki : (k : Int) < (n : Int) := by omega
      rcases h.below hbk with h0 | ⟨b, off, rfl, hbw, hcell⟩
      · omega
      obtain ⟨aS, aR, nS, cS, nR, cR, zS, zR, x, ⟨c0, c1, c2⟩, rS, rR, hby, hbS, hbR⟩ := hcell k hlt
      clear hcell
      go_wp2_with fail
      refine (prefixed_true _ _ _ _ _ _ _ _ x wr rS rR hby (by omega) (by omega)).mono ?_
      rintro e w2 ⟨rfl, hb2⟩
      have hb2 := hbk.trans (hb2.mono hbk.size)
      go_wp2
      go_roundw
      case rel => exact ⟨k + 1, by omega, by go_num, hb2⟩
      case measure => simp [intOf]; omega
    · have ki : ¬ (k : Int) < (n : Int) := by omega
      go_wp2
      go_ret
      exact ⟨rfl, hbk⟩
end Go.Proofs.Ytdfdicgfldcngaa.mem
