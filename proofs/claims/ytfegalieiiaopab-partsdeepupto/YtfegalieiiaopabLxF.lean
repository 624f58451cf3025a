import Derived.Test.YtfegalieiiaopabLxE
import Derived.Test.YtfegalieiiaopabCu
import Derived.Test.YtfegalieiiaopabBx
namespace Go.Proofs.Ytfegalieiiaopab.lx
open Go.ChangeShapes Go.WideShapes Go.ChangeAt Go.RowKit
open ints (hide unhide)
open mem (Row)
open cu (Tk)
open dt (there_cells one_cells below_setCells)
set_option linter.unusedVariables false
theorem infoTk : (Try.prog.info? 63).map (·.size) = some 7 := by kernel_rfl
/-- a part of a row -/
theorem row_part {k : IntKind} {w : World} {b off n c : Nat} {l : List Int} (h : Row k w (some ⟨b, off, none⟩) n c l) {i j : Nat} (hij : i ≤ j) (hj : j ≤ n) : Row k w (some ⟨b, off + i, none⟩) (j - i) (c - i) ((l.take j).drop i) := by
  have hl := h.len
  have hc := h.le
  refine ⟨by simp; omega, by omega, (fun e => by cases e), ?_⟩
  rcases h.at_ with h0 | ⟨b', off', e, hlt, hcell⟩
  · exact .inl (by omega)
  · simp only [Option.some.injEq, Addr.mk.injEq, and_true] at e
    obtain ⟨rfl, rfl⟩ := e
    refine .inr ⟨b, off + i, rfl, hlt, fun m hm => ?_⟩
    rw [Nat.add_assoc, hcell (i + m) (by omega)]
    have : i + m < j := by omega
    simp [List.getD, this]
/-- the token from i on -/
def tkAt (l : List Int) (i : Nat) : Tk :=
  ⟨(rd l true (ign l false i)).1, (mem.posT l (ign l false i)).1, (mem.posT l (ign l false i)).2, ign l false i, (rd l true (ign l false i)).2, mem.encS ((l.take (rd l true (ign l false i)).2).drop (ign l false i)), cu.em⟩
set_option maxHeartbeats 2000000 in
theorem next_ok (a : Option Addr) (n c : Nat) (l : List Int) (i : Nat) (w : World) (h : Row .i32 w a n c l) (hn : n ≤ 1099511627776) (hi : i ≤ n) (hp : Plain l) (ha : a = none ∨ ∃ b off, a = some ⟨b, off, none⟩) :
    Calls Try.prog 29 #[src a n c true, .int .i64 (i : Int)] w fun e w' => e = .returned (.agg #[.int .i64 (tkAt l i).k, .int .i64 0, .int .i64 0, .int .i64 (tkAt l i).fr, .int .i64 (tkAt l i).to, .string (tkAt l i).tx, .string cu.em]) ∧ Below w.heap.size w w' := by
  have hl := hide h.len
  have hsb := hide (Sb.new w a n c true)
  have h1 := hide (fun W (hb : Below w.heap.size w W) => ign_ok a n c true l i W (h.below hb) hn hi)
  have g1 := (ign_le l false i).2 (by rw [h.len]; exact hi)
  rw [h.len] at g1
  have h2 := hide (fun W (hb : Below w.heap.size w W) => rd_ok a n c l (ign l false i) W (h.below hb) hn g1 hp)
  have g2 := rd_le l true (ign l false i) (by rw [h.len]; exact g1)
  rw [h.len] at g2
  obtain ⟨F, hF⟩ : ∃ F, F = ign l false i := ⟨_, rfl⟩
  unfold tkAt
  rw [← hF] at h1 h2 g1 g2 ⊢
  obtain ⟨T, hT⟩ : ∃ T, T = (rd l true F).2 := ⟨_, rfl⟩
  obtain ⟨K, hK⟩ : ∃ K, K = (rd l true F).1 := ⟨_, rfl⟩
  rw [← hT, ← hK] at h2 g2 ⊢
  clear hT hK hF
  have g3 := g2.1
  have g4 := g2.2.1
  clear g2
  unfold src
  go_enter Try.func29, Try.ntmps29
  go_wp2_with fail
  obtain ⟨w1, hw1⟩ : ∃ w1, w1 = (w.alloc (.cells #[.slice a n c, .bool true] 76)).alloc (.cells #[Value.int IntKind.i64 0, Value.int IntKind.i64 0, Value.int IntKind.i64 0, Value.int IntKind.i64 0, Value.int IntKind.i64 0, Value.string { data := #[] }, Value.string { data := #[] }] 63) := ⟨_, rfl⟩
  have hs1 : Sb w w1 a n c true := by rw [hw1]; exact (unhide hsb).below ((Below.refl _ _).alloc (Nat.le_refl _) _)
  have hth : Hid (w1.heap[w.heap.size + 1]? = some (.cells #[Value.int IntKind.i64 0, Value.int IntKind.i64 0, Value.int IntKind.i64 0, Value.int IntKind.i64 0, Value.int IntKind.i64 0, Value.string { data := #[] }, Value.string { data := #[] }] 63 (0, 0))) := hide (by
    rw [hw1]
    have := heap_alloc_new (w.alloc (.cells #[.slice a n c, .bool true] 76)) (.cells #[Value.int IntKind.i64 0, Value.int IntKind.i64 0, Value.int IntKind.i64 0, Value.int IntKind.i64 0, Value.int IntKind.i64 0, Value.string { data := #[] }, Value.string { data := #[] }] 63)
    simpa using this)
  have hz1 : w.heap.size + 1 < w1.heap.size := by rw [hw1]; simp
  rw [← hw1]
  clear hw1 hsb
  refine ((unhide h1) w1 hs1.bel).mono ?_
  rintro e w2 ⟨rfl, b2⟩
  have hs2 := hs1.below b2
  have d0 := hs2.c0
  have d1 := hs2.c1
  go_wp2_with fail
  refine ((unhide h2) w2 hs2.bel).mono ?_
  rintro e w3 ⟨rfl, b3⟩
  have hs3 := hs2.below b3
  have b13 := b2.trans (b3.mono b2.size)
  clear d0 d1 h1 h2
  have d0 := hs3.c0
  have d1 := hs3.c1
  rcases ha with rfl | ⟨b, off, rfl⟩
  · have hc0 := h.nil rfl
    subst hc0
    have hn0 : n = 0 := by have := h.le; omega
    subst hn0
    obtain rfl : F = 0 := by omega
    obtain rfl : T = 0 := by omega
    have hl0 : l = [] := List.eq_nil_of_length_eq_zero (unhide hl)
    subst hl0
    go_wp2_with fail
    refine (mem.encode_any none 0 0 [] w3 ⟨rfl, Nat.le_refl _, fun _ => rfl, .inl rfl⟩ (by omega)).mono ?_
    rintro e w4 ⟨rfl, b4⟩
    have b14 := b13.trans (b4.mono b13.size)
    have hbx := (b14.block (w.heap.size + 1) hz1).trans (unhide hth)
    have hbel := hs1.bel.trans (b14.mono (Nat.le_trans (Nat.le_add_right _ 1) (Nat.le_of_lt hz1)))
    have hthr : w4.there (w.heap.size + 1) 0 7 := there_cells hbx (by decide)
    have HB := hide hbel
    clear b13 b14 b4 d0 d1 hbx hbel
    obtain ⟨S, hS⟩ : ∃ S, S = mem.encS ([]) := ⟨_, rfl⟩
    rw [← hS]
    have HS := hide hS
    clear hS
    go_wp2_with (first
      | refine wpList_store_mid (by rfl) 63 _ _ (by rfl) (w.heap.size + 1) 0 #[.int .i64 K, .int .i64 0, .int .i64 0, .int .i64 (0), .int .i64 (0), .string S, .string ⟨#[]⟩] (by rfl) (by rfl) hthr infoTk (one_cells (cs := [.int .i64 K, .int .i64 0, .int .i64 0, .int .i64 (0), .int .i64 (0), .string S, .string ⟨#[]⟩]) (by rfl)) ?_)
    refine bodyPost_ret (rgn.result_row rfl _ _ (w.heap.size + 1) 0 [.int .i64 K, .int .i64 0, .int .i64 0, .int .i64 (0), .int .i64 (0), .string S, .string ⟨#[]⟩] _ rfl (World.rangeAt_setCells_same _ _ _ _ hthr) Try.underlying63 rfl infoTk) rfl ?_
    exact ⟨by first | rfl | (rw [unhide HS]; simp [cu.em]) | (simp [cu.em, unhide HS]), below_setCells _ _ _ _ (unhide HB) (Nat.le_add_right _ 1)⟩
  · have hle := h.le
    have k1 : (F : Int) ≤ (T : Int) := by omega
    have k2 : (T : Int) ≤ (c : Int) := by omega
    have hrow := row_part (h.below hs3.bel) g3 g4
    by_cases hFc : F = c
    · subst hFc
      have hrow2 : Row .i32 w3 (some ⟨b, off, none⟩) (T - F) 0 ((l.take T).drop F) := ⟨hrow.len, by omega, (fun e => by cases e), .inl (by omega)⟩
      go_wp2_with fail
      refine (mem.encode_any (some ⟨b, off, none⟩) (T - F) 0 ((l.take T).drop F) w3 hrow2 (by omega)).mono ?_
      rintro e w4 ⟨rfl, b4⟩
      have b14 := b13.trans (b4.mono b13.size)
      have hbx := (b14.block (w.heap.size + 1) hz1).trans (unhide hth)
      have hbel := hs1.bel.trans (b14.mono (Nat.le_trans (Nat.le_add_right _ 1) (Nat.le_of_lt hz1)))
      have hthr : w4.there (w.heap.size + 1) 0 7 := there_cells hbx (by decide)
      have HB := hide hbel
      clear b13 b14 b4 d0 d1 hbx hbel
      obtain ⟨S, hS⟩ : ∃ S, S = mem.encS (((l.take T).drop F)) := ⟨_, rfl⟩
      rw [← hS]
      have HS := hide hS
      clear hS
      go_wp2_with (first
        | refine wpList_store_mid (by rfl) 63 _ _ (by rfl) (w.heap.size + 1) 0 #[.int .i64 K, .int .i64 0, .int .i64 0, .int .i64 (F : Int), .int .i64 (T : Int), .string S, .string ⟨#[]⟩] (by rfl) (by rfl) hthr infoTk (one_cells (cs := [.int .i64 K, .int .i64 0, .int .i64 0, .int .i64 (F : Int), .int .i64 (T : Int), .string S, .string ⟨#[]⟩]) (by rfl)) ?_)
      refine bodyPost_ret (rgn.result_row rfl _ _ (w.heap.size + 1) 0 [.int .i64 K, .int .i64 0, .int .i64 0, .int .i64 (F : Int), .int .i64 (T : Int), .string S, .string ⟨#[]⟩] _ rfl (World.rangeAt_setCells_same _ _ _ _ hthr) Try.underlying63 rfl infoTk) rfl ?_
      exact ⟨by first | rfl | (rw [unhide HS]; simp [cu.em]) | (simp [cu.em, unhide HS]), below_setCells _ _ _ _ (unhide HB) (Nat.le_add_right _ 1)⟩
    · have hFc2 : ¬ (F : Int) = (c : Int) := by omega
      go_wp2_with fail
      refine (mem.encode_any (some ⟨b, off + F, none⟩) (T - F) (c - F) ((l.take T).drop F) w3 hrow (by omega)).mono ?_
      rintro e w4 ⟨rfl, b4⟩
      have b14 := b13.trans (b4.mono b13.size)
      have hbx := (b14.block (w.heap.size + 1) hz1).trans (unhide hth)
      have hbel := hs1.bel.trans (b14.mono (Nat.le_trans (Nat.le_add_right _ 1) (Nat.le_of_lt hz1)))
      have hthr : w4.there (w.heap.size + 1) 0 7 := there_cells hbx (by decide)
      have HB := hide hbel
      clear b13 b14 b4 d0 d1 hbx hbel
      obtain ⟨S, hS⟩ : ∃ S, S = mem.encS (((l.take T).drop F)) := ⟨_, rfl⟩
      rw [← hS]
      have HS := hide hS
      clear hS
      go_wp2_with (first
        | refine wpList_store_mid (by rfl) 63 _ _ (by rfl) (w.heap.size + 1) 0 #[.int .i64 K, .int .i64 0, .int .i64 0, .int .i64 (F : Int), .int .i64 (T : Int), .string S, .string ⟨#[]⟩] (by rfl) (by rfl) hthr infoTk (one_cells (cs := [.int .i64 K, .int .i64 0, .int .i64 0, .int .i64 (F : Int), .int .i64 (T : Int), .string S, .string ⟨#[]⟩]) (by rfl)) ?_)
      refine bodyPost_ret (rgn.result_row rfl _ _ (w.heap.size + 1) 0 [.int .i64 K, .int .i64 0, .int .i64 0, .int .i64 (F : Int), .int .i64 (T : Int), .string S, .string ⟨#[]⟩] _ rfl (World.rangeAt_setCells_same _ _ _ _ hthr) Try.underlying63 rfl infoTk) rfl ?_
      exact ⟨by first | rfl | (rw [unhide HS]; simp [cu.em]) | (simp [cu.em, unhide HS]), below_setCells _ _ _ _ (unhide HB) (Nat.le_add_right _ 1)⟩
end Go.Proofs.Ytfegalieiiaopab.lx
