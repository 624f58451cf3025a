import Derived.Test.YtfjoaifcfmcnfaaGreatDoorJoX
import Derived.Deep.Strs
namespace Go.Proofs.YtfjoaifcfmcnfaaGreatDoor.jsn
open Go.ChangeShapes Go.WideShapes Go.ChangeAt Go.RowKit
open mem vl Go.Maps
open ints (hide unhide)
set_option linter.unusedVariables false
/-- a list of texts in memory -/
structure Txs (w : World) (a : Option Addr) (n : Nat) (Sx : Nat → ByteArray) : Prop where
  at_ : n = 0 ∨ ∃ b off, a = some ⟨b, off, none⟩ ∧ b < w.heap.size ∧ ∀ i, i < n → w.cell? ⟨b, off + i, none⟩ = some (.string (Sx i))
  few : ∀ i, i < n → (Sx i).size ≤ 1048576
theorem bulk_at {H : Type} (D : Nat → DataW H) (n : Nat) : n ≤ Rows.uptoBulkAll ((List.range n).map D) ∧ ∀ i, i < n → Rows.uptoBulk (D i) ≤ Rows.uptoBulkAll ((List.range n).map D) := by
  have pos : ∀ d : DataW H, 1 ≤ Rows.uptoBulk d := by
    intro d
    cases d with
    | lit l => cases l <;> simp [Rows.uptoBulk]
    | _ => simp [Rows.uptoBulk]
  have app : ∀ (l m : List (DataW H)), Rows.uptoBulkAll (l ++ m) = Rows.uptoBulkAll l + Rows.uptoBulkAll m := by
    intro l m
    induction l with
    | nil => simp [Rows.uptoBulkAll]
    | cons x l ih => simp only [List.cons_append, Rows.uptoBulkAll]; omega
  induction n with
  | zero => exact ⟨Nat.zero_le _, fun i hi => by omega⟩
  | succ n ih =>
    have hp := pos (D n)
    rw [List.range_succ, List.map_append, app]
    simp only [List.map_cons, List.map_nil, Rows.uptoBulkAll]
    refine ⟨by omega, fun i hi => ?_⟩
    by_cases h : i = n
    · subst h; omega
    · have := ih.2 i (by omega); omega
theorem texts_bulk {H : Type} {enc : TypeId × Value → H} {w : World} {base : Nat} {held : Bool} {fuel : Nat} {a0 : Option Addr} {len0 cap0 : Nat} {d : DataW H} {p : List MemPlace}
    (h : DataW.trod enc Tryz.prog w base (fun _ => true) held fuel 31 [.slice a0 len0 cap0] = some (d, p)) (hN : Rows.uptoBulk d ≤ 1048576) :
    ∃ Sx, Txs w a0 len0 Sx ∧ len0 ≤ cap0 ∧ len0 ≤ 1048576 := by
  rcases Go.Deep.open_strs Tryz.underlying31 Tryz.underlying9 (by kernel_rfl) h with ⟨hcs, _⟩ | ⟨a, len, cap, m, Sx, hcs, hb, hl, hm, hmm, hx, hcell⟩
  · simp at hcs
    obtain ⟨rfl, rfl, rfl⟩ := hcs
    exact ⟨fun _ => ⟨#[]⟩, ⟨.inl rfl, fun i hi => by omega⟩, Nat.le_refl _, Nat.zero_le _⟩
  · simp at hcs
    obtain ⟨rfl, rfl, rfl⟩ := hcs
    simp only [if_true] at hmm
    subst hmm
    simp only [Prod.mk.injEq] at hx
    obtain ⟨rfl, -⟩ := hx
    have hB := bulk_at (fun i => (DataW.lit (.string (Sx i).data.toList) : DataW H)) len0
    simp only [Rows.uptoBulk] at hN
    refine ⟨Sx, ⟨?_, fun i hi => ?_⟩, hl, by omega⟩
    · by_cases h0 : len0 = 0
      · exact .inl h0
      · obtain ⟨b, off, spot⟩ := a
        have hc := (hcell 0 (by omega)).1
        have hspot : spot = none := by simpa [Addr.add] using World.cell?_spot hc
        subst hspot
        refine .inr ⟨b, off, rfl, ?_, fun i hi => ?_⟩
        · exact World.block_lt_of_cell? w _ hc
        · have := (hcell i (by omega)).1
          rw [Addr.add_lit] at this
          exact this
    · have h1 := hB.2 i hi
      simp only [Rows.uptoBulk] at h1
      have h2 := size_list (Sx i)
      omega
set_option maxHeartbeats 4000000 in
set_option maxRecDepth 100000 in
theorem law_texts (a : Option Addr) (n c : Nat) (Sx : Nat → ByteArray) (w : World) (h : Txs w a n Sx) (hnc : n ≤ c) (hn : n ≤ 1048576) :
    Calls Tryz.prog 4 #[.slice a n c] w fun e w' => e = .returned (.bool true) ∧ Below w.heap.size w w' := by
  go_enter Tryz.func4, Tryz.ntmps4
  go_wp2_with fail
  refine (awake_ok w).mono ?_
  rintro e w1 ⟨rfl, b1⟩
  go_wp2_with fail
  go_loopw [3] (fun vi wr => ∃ k : Nat, k ≤ n ∧ vi = .int .i64 k ∧ Below w.heap.size w wr) (fun vi _ => n - (intOf vi).toNat)
  case atStart => exact ⟨0, Nat.zero_le _, rfl, b1⟩
  case round =>
    obtain ⟨k, hk, rfl, hb⟩ := hrel
    by_cases hlt : k < n
    · rcases h.at_ with h0 | ⟨b, off, rfl, hbw, hcell⟩
      · omega
      have c1 := (hb.cell (p := ⟨b, off + k, none⟩) hbw).trans (hcell k hlt)
      have hf := h.few k hlt
      obtain ⟨s, hs⟩ : ∃ s, s = Sx k := ⟨_, rfl⟩
      rw [← hs] at c1 hf
      clear hs hcell
      have R := hide (fun W => rtext_any s W hf)
      have T := hide (fun W => text_any s W (by omega))
      obtain ⟨X, hX⟩ : ∃ X, X = txS s := ⟨_, rfl⟩
      obtain ⟨E, hE⟩ : ∃ E, E = txE s := ⟨_, rfl⟩
      rw [← hX, ← hE] at R T
      clear hX hE
      have HB := hide hb
      have hsz := hb.size
      go_wp2_with fail
      refine (unhide R _).mono ?_
      rintro e w2 ⟨rfl, b2⟩
      have c2 := (b2.cell (p := ⟨b, off + k, none⟩) (Nat.lt_of_lt_of_le hbw hsz)).trans c1
      have HB2 := hide ((unhide HB).trans (b2.mono hsz))
      clear R c1 b2 HB
      go_wp2_with fail
      refine (unhide T _).mono ?_
      rintro e w3 ⟨rfl, b3⟩
      have HB3 := hide ((unhide HB2).trans (b3.mono (unhide HB2).size))
      clear T c2 b3 HB2
      go_wp2
      refine ⟨⟨k + 1, by omega, rfl, unhide HB3⟩, ?_⟩
      simp only [intOf]
      omega
    · go_wp2
      go_ret
      exact ⟨rfl, hb⟩
end Go.Proofs.YtfjoaifcfmcnfaaGreatDoor.jsn
