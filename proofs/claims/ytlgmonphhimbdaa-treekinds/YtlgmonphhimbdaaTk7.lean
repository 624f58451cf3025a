import Derived.Test.YtlgmonphhimbdaaTk6
namespace Go.Proofs.Ytlgmonphhimbdaa.knd
open Go.ChangeShapes Go.WideShapes Go.ChangeAt Go.RowKit Go.Maps Go.Shelf
open wk
attribute [local go_sem] Oper.semAt_some
set_option linter.unusedVariables false
set_option linter.unusedSimpArgs false
def encE (x : Fin 65536 × Sv) : Array Value := #[.agg #[.int .i8 (p0 x.1), .int .i8 (p1 x.1), .bool (p2 x.1)], .slice x.2.1 x.2.2.1 x.2.2.2]
/-- the entries that a range yields -/
def ents (rs : List Rw) : List (Fin 65536 × Sv) := rs.map (·.2)
theorem ents_len (rs : List Rw) : (ents rs).length = rs.length := by simp [ents]
theorem ents_get {rs : List Rw} {i : Nat} {r : Rw} (h : rs[i]? = some r) : (ents rs)[i]? = some r.2 := by simp [ents, h]
theorem take_next {α : Type} {L pre : List α} {k : Nat} {x : α} (h : pre = L.take k) (hx : L[k]? = some x) : pre ++ [x] = L.take (k + 1) := by
  rw [h, List.take_add_one, hx]
  rfl
def NxE (L : List (Fin 65536 × Sv)) (pre : List (Fin 65536 × Sv)) (x : Fin 65536 × Sv) : Prop := ∃ k, k < L.length ∧ pre = L.take k ∧ L[k]? = some x
def SpE (L : List (Fin 65536 × Sv)) (pre : List (Fin 65536 × Sv)) : Prop := ∃ k, k ≤ L.length ∧ pre = L.take k
/-- what a round must keep: the rows that the range has for itself -/
def KpE (N : Nat) (_ : Fin 65536 × Sv) (A A' : World) : Prop := A.heap.size ≤ A'.heap.size ∧ A'.heap[N + 1]? = A.heap[N + 1]?
def RdE (N : Nat) (_ : Fin 65536 × Sv) (A : World) : Prop := N + 2 ≤ A.heap.size
def CE (A B : World) : Prop := Below A.heap.size A B
set_option maxRecDepth 100000 in
set_option maxHeartbeats 1000000 in
theorem all_seq {w : World} {B : Nat} {X : Nat → Prop} {b Bo : Nat} {M : Option Nat} {rs : List Rw} {nx : Nat} (h : Tb w B X b M rs nx) (hn : rs.length ≤ 1099511627776) (n : Nat) (hn1 : 1 ≤ n) (hc : w.cell? ⟨Bo, 0, none⟩ = some (.pointer (some ⟨b, 0, none⟩))) :
    SeqT Fence.wide n Try.prog 13 #[.pointer (some ⟨Bo, 0, none⟩)] encE (RdE w.heap.size) CE (KpE w.heap.size) (fun xs => xs = ents rs) (SpE (ents rs)) (NxE (ents rs)) w := by
  intro l J Jx hJ hJx hY h0
  obtain ⟨v0, c0, hlie⟩ := h.rows
  have CL := hide (clone_ok w _ v0 rs hlie hn)
  obtain ⟨a, cap, rfl, -⟩ := hlie
  clear h
  refine callsIn_of_wp Try.func13 rfl trivial ?_ rfl
  simp only [Try.ntmps13, List.size_toArray, List.length_cons, List.length_nil, Nat.reduceAdd, Nat.reduceSub, Array.replicate_succ, Array.replicate_zero, List.push_toArray, List.append_toArray, List.nil_append, List.cons_append]
  obtain ⟨q, hq⟩ : ∃ q, q = rs.length := ⟨_, rfl⟩
  rw [← hq] at c0 CL
  have hqb : q ≤ 1099511627776 := by omega
  have HQ := hide hq
  clear hq hn
  gi_wp2_with fail
  refine ⟨trivial, (callsIn_wide.2 (unhide CL)).mono ?_⟩
  rintro e wc ⟨hb1, (⟨h1, a1, c1, rfl⟩ | ⟨h1, c1, rfl, hsz, hr⟩)⟩
  · have E0 := hide (show ents rs = [] by rw [h1]; rfl)
    clear h1
    gi_wp2
    gi_loopw [13] (fun i wr => i = .int .i64 0 ∧ J [] wr) (fun i _ => 0)
    case atStart => exact ⟨rfl, hJ _ _ _ h0 hb1⟩
    case round =>
      obtain ⟨rfl, hJs⟩ := hrel
      gi_wp2
      go_end0
      exact ⟨⟨_, rfl⟩, .inl ⟨_, (unhide E0).symm, hJs⟩⟩
  · rw [← unhide HQ]
    have HR := hide hr
    clear hr h1
    gi_wp2
    gi_loopw [13] (fun i wr => ∃ (k : Nat) (pre : List (Fin 65536 × Sv)), k ≤ q ∧ i = .int .i64 k ∧ Hid (pre = (ents rs).take k) ∧ J pre wr ∧ w.heap.size + 2 ≤ wr.heap.size ∧ Hid (wr.heap[w.heap.size + 1]? = wc.heap[w.heap.size + 1]?)) (fun i _ => q - (intOf i).toNat)
    case atStart => exact ⟨0, [], Nat.zero_le _, rfl, hide (by simp), hJ _ _ _ h0 hb1, by omega, hide rfl⟩
    case round =>
      obtain ⟨k, pre, hk, rfl, hp, hJs, hws, hkeep⟩ := hrel
      by_cases hlt : k < q
      · have ki : (k : Int) < (q : Int) := by omega
        obtain ⟨r, hrk⟩ : ∃ r, rs[k]? = some r := ⟨_, List.getElem?_eq_getElem (by rw [← unhide HQ]; exact hlt)⟩
        obtain ⟨z0, z1, z2, z3, z4⟩ := ra_cells (ra_same (unhide hkeep) (unhide HR)) hrk
        have hE := ents_get hrk
        obtain ⟨x, kk, u⟩ := r
        simp only [Nat.zero_add] at z0 z1 z2 z3 z4
        have hnext := hide (take_next (unhide hp) hE)
        have bw : Below wr.heap.size wr (wr.alloc (.cells #[.int .i64 x, .int .i8 (p0 kk), .int .i8 (p1 kk), .bool (p2 kk), .slice u.1 u.2.1 u.2.2] 52)) := (Below.refl _ _).alloc (Nat.le_refl _) _
        obtain ⟨fn, tmps, assign, body, hy, hR⟩ := hY pre (kk, u) (wr.alloc (.cells #[.int .i64 x, .int .i8 (p0 kk), .int .i8 (p1 kk), .bool (p2 kk), .slice u.1 u.2.1 u.2.2] 52)) (hJ _ _ _ hJs bw) (by show _ ≤ _; simp; omega) ⟨k, by rw [ents_len, ← unhide HQ]; exact hlt, unhide hp, hE⟩
        have K1 := hide (show (wr.alloc (.cells #[.int .i64 x, .int .i8 (p0 kk), .int .i8 (p1 kk), .bool (p2 kk), .slice u.1 u.2.1 u.2.2] 52)).heap[w.heap.size + 1]? = wc.heap[w.heap.size + 1]? from (bw.block _ (by omega)).trans (unhide hkeep))
        have S1 : w.heap.size + 2 ≤ (wr.alloc (.cells #[.int .i64 x, .int .i8 (p0 kk), .int .i8 (p1 kk), .bool (p2 kk), .slice u.1 u.2.1 u.2.2] 52)).heap.size := by simp; omega
        have hy' := hy
        unfold encE at hy'
        simp only at hy'
        have S1' := hide S1
        have HRR := hide hR
        clear hR hE hrk bw hy hY S1
        gi_wp2
        refine (unhide HRR).mono ?_
        rintro e W3 (⟨rfl, hJ3, hk3⟩ | ⟨rfl, hJx3, hk3⟩)
        · gi_wp2
          go_roundw
          case rel => exact ⟨k + 1, _, by omega, by simp, hnext, hJ3, Nat.le_trans (unhide S1') hk3.1, hide (hk3.2.trans (unhide K1))⟩
          case measure => simp [intOf]; omega
        · gi_wp2
          refine bodyPost_ret (results_none rfl _ _ _) rfl ?_
          exact ⟨⟨_, rfl⟩, .inr ⟨_, ⟨k + 1, by rw [ents_len, ← unhide HQ]; omega, unhide hnext⟩, hJx3⟩⟩
      · obtain rfl : k = q := by omega
        gi_wp2
        go_end0
        refine ⟨⟨_, rfl⟩, .inl ⟨_, ?_, hJs⟩⟩
        have := unhide hp
        rwa [List.take_of_length_le (by rw [ents_len, ← unhide HQ]; exact Nat.le_refl _)] at this
end Go.Proofs.Ytlgmonphhimbdaa.knd
