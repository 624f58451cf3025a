import Derived.Test.YtfegalieiiaopaaPw5
import Derived.Laws.IdiomStrings
namespace Go.Proofs.Ytfegalieiiaopaa.cu
open Go.ChangeShapes Go.WideShapes Go.ChangeAt Go.RowKit
open ints (hide unhide)
open dt (Dt Kp RowAt Ow)
open mem (Row)
set_option linter.unusedVariables false
set_option linter.unusedSimpArgs false
theorem conv_bytes (s : ByteArray) (w : World) : ∃ cap W2, (convert 9 22 (.string s)).run Try.prog w = .ok (.slice (some ⟨w.heap.size, 0, none⟩) s.size cap) W2 ∧
    Row .u8 W2 (some ⟨w.heap.size, 0, none⟩) s.size cap (mem.bytesZ s) ∧ Below w.heap.size w W2 := by
  have h := run_bytes_of_string (P := Try.prog) w 9 22 5 s Try.underlying9 Try.underlying22 Try.underlying5
  refine ⟨_, _, h, ⟨mem.bytesZ_len s, grownCap_ge _ _ _ _, (fun e => by cases e), .inr ⟨w.heap.size, 0, rfl, by simp, fun i hi => ?_⟩⟩, (Below.refl _ _).drew.alloc (Nat.le_refl _) _⟩
  have e : (w.drew.alloc (.cells (bytesRow s (grownCap w s.size 0 5)) 5 ((bytesRow s (grownCap w s.size 0 5)).size, (bytesRow s (grownCap w s.size 0 5)).size + 1))).cell? ⟨w.drew.heap.size, 0 + i, none⟩ = (bytesRow s (grownCap w s.size 0 5))[0 + i]? := World.cell?_alloc_mark _ _ _ _ _
  refine e.trans ?_
  have hi' : i < s.data.size := hi
  unfold bytesRow mem.bytesZ
  rw [Nat.zero_add, Array.getElem?_append_left (by simpa using hi')]
  have e2 : (s.data.toList.map fun b => (b.toNat : Int)).getD i 0 = ((s.data[i]'hi').toNat : Int) := by simp [List.getD, Array.getElem?_eq_getElem hi']
  rw [e2, Array.getElem?_map, Array.getElem?_eq_getElem hi']
  rfl
theorem conv_bytesN (s : ByteArray) (w : World) (N : Nat) (hN : N = w.heap.size) : ∃ cap W2, (convert 9 22 (.string s)).run Try.prog w = .ok (.slice (some ⟨N, 0, none⟩) s.size cap) W2 ∧
    Row .u8 W2 (some ⟨N, 0, none⟩) s.size cap (mem.bytesZ s) ∧ Below w.heap.size w W2 := by
  subst hN; exact conv_bytes s w
set_option maxRecDepth 4000 in
set_option maxHeartbeats 1000000 in
theorem law_wraps (a : Option Addr) (n c : Nat) (ms : List Int) (d : Int) (w : World) (h : Row .u8 w a n c ms) (hb : mem.Byt ms) (hn : n ≤ 1048576) (hd : (Lit.int .i64 d).wf = true) :
    Calls Try.prog 3 #[.slice a n c, .int .i64 d] w fun e w' => e = .returned (.bool true) ∧ Below w.heap.size w w' := by
  have hF := hide (fixed_ok w)
  have hW := hide (fun W (bb : Below w.heap.size w W) => wrapped_ok a n c ms W (h.below bb) hb hn)
  go_enter Try.func3, Try.ntmps3
  go_wp2_with fail
  refine (unhide hF).mono ?_
  rintro e w1 ⟨rfl, b1⟩
  go_wp2_with fail
  refine ((unhide hW) w1 b1).mono ?_
  rintro e w2 ⟨pre, last, S, hpn, hwn, hS, rfl, b2⟩
  have hlS : S.size = (srcW pre last).length := by rw [← hS, mem.bytesZ_len]
  have hSs : S.size ≤ 3145730 := by rw [hlS, src_len]; omega
  clear hlS
  have bA := (Below.refl w2.heap.size w2).alloc (Nat.le_refl _) (.cells #[Value.string onB, .string (toB (wr pre last))] 25)
  obtain ⟨cap, W3, hcv, hrow, b3⟩ := conv_bytesN S (w2.alloc (.cells #[Value.string onB, .string (toB (wr pre last))] 25)) (w2.heap.size + 1) (by simp)
  rw [hS] at hrow
  have hT3 := (b3.block w2.heap.size (by simp)).trans (heap_alloc_new w2 _)
  have hz3 : w2.heap.size < W3.heap.size := by have := b3.size; simp at this; omega
  have hRT := hide (readType_ok _ S.size cap (srcW pre last) d W3 hrow (by omega) (src_plain pre last) hd)
  have bw3 : Below w.heap.size w W3 := (b1.trans (b2.mono b1.size)).trans ((bA.trans (b3.mono bA.size)).mono (Nat.le_trans b1.size b2.size))
  have HB3 := hide bw3
  have HSS := hide hS
  clear hS
  clear hF hW hrow b3 b2 b1 bA bw3
  go_wp2_with fail
  refine (unhide hRT).mono ?_
  rintro e w4 ⟨fs, rfl, hfl, b4⟩
  have hT4 := (b4.block w2.heap.size hz3).trans hT3
  have hz4 : w2.heap.size < w4.heap.size := Nat.lt_of_lt_of_le hz3 b4.size
  clear hSs
  have hlim : (min (max d 0) 200) = ((mostS d : Nat) : Int) := by unfold mostS; omega
  have HB4 := hide ((unhide HB3).trans (b4.mono (unhide HB3).size))
  clear hcv hRT b4 hT3
  obtain ⟨M, hM⟩ : ∃ M, M = mostS d := ⟨_, rfl⟩
  rw [← hM] at hlim
  have HL := hide hlim
  have two : ∀ o o', Below w4.heap.size w4 ((w4.alloc o).alloc o') := fun o o' => ((Below.refl _ _).alloc (Nat.le_refl _) o).alloc (by simp) o'
  have t0 : ∀ o o', ((w4.alloc o).alloc o').cell? ⟨w2.heap.size, 0, none⟩ = some (.string onB) := fun o o' => (dt.cell_cells (((two o o').block _ hz4).trans hT4) 0).trans rfl
  have t1 : ∀ o o', ((w4.alloc o).alloc o').cell? ⟨w2.heap.size, 1, none⟩ = some (.string (toB (wr pre last))) := fun o o' => (dt.cell_cells (((two o o').block _ hz4).trans hT4) 1).trans rfl
  have HB5 := hide (fun o o' => (unhide HB4).trans ((two o o').mono (unhide HB4).size))
  by_cases hdp : pre.length ≤ M
  · obtain ⟨r1, r2⟩ := readW_yes pre last d (by rw [← hM]; exact hdp)
    rw [r1]
    unfold FltAt at hfl
    rw [if_pos r2] at hfl
    subst hfl
    clear r1 r2
    unfold trC
    clear two hM
    go_wp2_with fail
    go_ret
    exact ⟨rfl, (unhide HB5) _ _⟩
  · obtain ⟨r1, r2, r3, r4⟩ := readW_no pre last d (by rw [← hM]; omega)
    rw [r1]
    unfold FltAt at hfl
    rw [if_neg (by rw [r2]; decide), r2, r3, r4, ← hM] at hfl
    obtain ⟨b, f1, f2, rfl, f4, f5⟩ := hfl
    clear r1 r2 r3 r4
    unfold trC
    have p0 : ∀ o o', ((w4.alloc o).alloc o').cell? ⟨b, 0, none⟩ = some (.int .i64 1) := fun o o' => ((two o o').cell (p := ⟨b, 0, none⟩) f2).trans f4
    have p1 : ∀ o o', ((w4.alloc o).alloc o').cell? ⟨b, 1, none⟩ = some (.int .i64 ((M : Int) + 1)) := fun o o' => ((two o o').cell (p := ⟨b, 1, none⟩) f2).trans f5
    have hMlt : M < pre.length := by omega
    have hM200 : M ≤ 200 := by rw [hM]; unfold mostS; omega
    have hem : em.toList = [] := by rw [ByteArray.toList_eq]; rfl
    clear two hdp f4 f5 hM
    go_wp2_with fail
    go_ret
    exact ⟨rfl, (unhide HB5) _ _⟩
end Go.Proofs.Ytfegalieiiaopaa.cu
