import Derived.Test.YtlgmonphhimbdaaTk0
namespace Go.Proofs.Ytlgmonphhimbdaa.knd
open Go.ChangeShapes Go.WideShapes Go.ChangeAt Go.RowKit Go.Maps
set_option linter.unusedVariables false
theorem equal_pv (s t : Fin 65536) (w : World) : (Op.equal 30 (pv s) (pv t)).run Try.prog w = .ok (decide (s = t)) w := by
  obtain ⟨r, h1, h2⟩ := run_equal_deep (P := Try.prog) w (m := 3) (by decide) (k := 30) (by kernel_rfl) (by kernel_rfl) (key_mk s) (key_mk t)
  rw [h1]
  congr 1
  by_cases h : s = t
  · subst h
    rw [h2.2 rfl]
    simp
  · rw [decide_eq_false h]
    cases r
    · rfl
    · exact absurd (kl_inj (h2.1 rfl)) h
theorem place_eq (s : Fin 65536) (w : World) : (binOp BinOp.eql 30 (.agg #[.int .i8 (p0 s), .int .i8 (p1 s), .bool (p2 s)]) (.agg #[.int .i8 (p0 s), .int .i8 (p1 s), .bool (p2 s)])).run Try.prog w = .ok (.bool true) w := by
  have h := equal_pv s s w
  rw [decide_eq_true rfl] at h
  unfold pv at h
  simp [binOp, h]
theorem place_neq (s t : Fin 65536) (w : World) : (binOp BinOp.neq 30 (.agg #[.int .i8 (p0 s), .int .i8 (p1 s), .bool (p2 s)]) (.agg #[.int .i8 (p0 t), .int .i8 (p1 t), .bool (p2 t)])).run Try.prog w = .ok (.bool (!decide (s = t))) w := by
  have h := equal_pv s t w
  unfold pv at h
  simp [binOp, h]
theorem catch_idle (p : Addr) (w : World) :
    CallsD Try.prog 15 #[.pointer (some p)] .returning w fun e u' w' => e = .returned (.tuple #[]) ∧ u' = .returning ∧ w' = w := by
  refine callsD_of_wpS Try.func15 rfl fun c₀ cs hu => ?_
  apply wpS_seq
  apply wpS_region
  simp [wpOpsS, go_sem, recoverD, hu, Try.ntmps15, Exit.thenS]
  refine wpS_cond (t := false) (by simp [Act.eval, Array.replicate]) ?_
  simp only [Bool.false_eq_true, if_false]
  refine wpS_of_wp (wp_skip ?_)
  cases c₀
  simp_all [bodyPostS, results, Try.results15]
theorem holdable_str (s : Fin 65536) (w : World) :
    Calls Try.prog 11 #[.agg #[.int .i8 (p0 s), .int .i8 (p1 s), .bool (p2 s)]] w fun e w' => e = .returned (.bool true) ∧ Below w.heap.size w w' := by
  have heq := place_eq
  have hmf : ∀ (fn : Fn) (first cap : Array Value) (w : World), (Instr.makeFunc fn first cap).run Try.prog w = .ok (.func fn first cap) w := fun _ _ _ _ => rfl
  go_enter_defers Try.func11, Try.ntmps11
  go_wp2
  refine leaves_cons (f := 15) (args := #[.pointer (some ⟨w.heap.size + 1, 0, none⟩)]) (by simp) (by simp [go_sem]) ?_
  refine (catch_idle ⟨w.heap.size + 1, 0, none⟩ _).mono ?_
  rintro e u' w'' ⟨rfl, rfl, rfl⟩
  simp [Leaves, settle, results, Try.results11, go_sem]
  exact ((Below.refl _ _).alloc (Nat.le_refl _) _).alloc (by simp) _
/-- a list that is a value -/
abbrev Sv := Option Addr × Nat × Nat
abbrev Rw := Int × Fin 65536 × Sv
theorem zeroE (w : World) : (zeroValue 3).run Try.prog w = .ok (.int .i64 0) w := by kernel_rfl
def c3 (x t : Int) : Int := if x < t then -1 else if t < x then 1 else 0
theorem c3_lt {x t : Int} (h : x < t) : c3 x t = -1 := by simp [c3, h]
theorem c3_gt {x t : Int} (h : t < x) : c3 x t = 1 := by simp [c3, h, show ¬ x < t by omega]
theorem c3_eq {x t : Int} (h : x = t) : c3 x t = 0 := by simp [c3, h]
theorem cmp_row (x : Int) (k : Fin 65536) (v : Sv) (t : Int) (w : World) :
    Calls Try.prog 17 #[.agg #[.int .i64 x, .int .i8 (p0 k), .int .i8 (p1 k), .bool (p2 k), .slice v.1 v.2.1 v.2.2], .int .i64 t] w fun e w' => e = .returned (.int .i64 (c3 x t)) ∧ Below w.heap.size w w' := by
  rcases Int.lt_trichotomy x t with h | h | h
  · go_enter Try.func17, Try.ntmps17
    go_wp2
    go_ret
    exact ⟨by rw [c3_lt h]; rfl, (Below.refl _ _).alloc (Nat.le_refl _) _⟩
  · go_enter Try.func17, Try.ntmps17
    go_wp2
    go_ret
    exact ⟨by rw [c3_eq (by omega)]; rfl, (Below.refl _ _).alloc (Nat.le_refl _) _⟩
  · go_enter Try.func17, Try.ntmps17
    go_wp2
    go_ret
    exact ⟨by rw [c3_gt h]; rfl, (Below.refl _ _).alloc (Nat.le_refl _) _⟩
/-- the entries of a table, as a slice of rows: serial, key, value -/
structure Rws (w : World) (a : Option Addr) (n : Nat) (rs : List Rw) : Prop where
  len : rs.length = n
  at_ : n = 0 ∨ ∃ b off, a = some ⟨b, off, none⟩ ∧ b < w.heap.size ∧ ∀ i, i < n → ∃ r, rs[i]? = some r ∧ w.cell? ⟨b, off + i * 5, none⟩ = some (.int .i64 r.1) ∧ w.cell? ⟨b, off + i * 5 + 1, none⟩ = some (.int .i8 (p0 r.2.1)) ∧ w.cell? ⟨b, off + i * 5 + 2, none⟩ = some (.int .i8 (p1 r.2.1)) ∧ w.cell? ⟨b, off + i * 5 + 3, none⟩ = some (.bool (p2 r.2.1)) ∧ w.cell? ⟨b, off + i * 5 + 4, none⟩ = some (.slice r.2.2.1 r.2.2.2.1 r.2.2.2.2)
theorem Rws.below {w w' : World} {a : Option Addr} {n : Nat} {rs : List Rw} (h : Rws w a n rs) (hb : Below w.heap.size w w') : Rws w' a n rs := by
  refine ⟨h.len, ?_⟩
  rcases h.at_ with h0 | ⟨b, off, ha, hlt, hc⟩
  · exact .inl h0
  · refine .inr ⟨b, off, ha, Nat.lt_of_lt_of_le hlt hb.size, fun i hi => ?_⟩
    obtain ⟨r, hr, k0, k1, k2, k3, k4⟩ := hc i hi
    exact ⟨r, hr, (hb.cell hlt).trans k0, (hb.cell hlt).trans k1, (hb.cell hlt).trans k2, (hb.cell hlt).trans k3, (hb.cell hlt).trans k4⟩
def Rising (rs : List Rw) : Prop := ∀ (k l : Nat) (r r' : Rw), k < l → rs[k]? = some r → rs[l]? = some r' → r.1 < r'.1
theorem rising_lo {rs : List Rw} (hs : Rising rs) {m : Nat} {r : Rw} {t : Int} (hr : rs[m]? = some r) (hx : r.1 < t) : ∀ k q, k < m + 1 → rs[k]? = some q → q.1 < t := by
  intro k q hk hq
  by_cases h : k = m
  · subst h
    rw [hr] at hq
    cases hq
    exact hx
  · exact Int.lt_trans (hs k m q r (by omega) hq hr) hx
theorem rising_hi {rs : List Rw} (hs : Rising rs) {m : Nat} {r : Rw} {t : Int} (hr : rs[m]? = some r) (hx : t ≤ r.1) : ∀ k q, m ≤ k → rs[k]? = some q → t ≤ q.1 := by
  intro k q hk hq
  by_cases h : k = m
  · subst h
    rw [hr] at hq
    cases hq
    omega
  · have := hs m k r q (by omega) hr hq
    omega
theorem found {rs : List Rw} {i : Nat} {x : Int} {kk : Fin 65536} {v : Sv} {t : Int} (hr : rs[i]? = some (x, kk, v)) : ((c3 x t == 0) = true ↔ ∃ r, rs[i]? = some r ∧ r.1 = t) := by
  rw [beq_iff_eq]
  constructor
  · intro h
    refine ⟨_, hr, ?_⟩
    unfold c3 at h
    split at h
    · omega
    · split at h
      · omega
      · show x = t
        omega
  · rintro ⟨r, h1, h2⟩
    rw [hr] at h1
    cases h1
    exact c3_eq h2
/-- what the search answers: the first row that isn't below t, and whether it is t's -/
def BsPost (rs : List Rw) (n : Nat) (t : Int) (w : World) (e : Ending) (w' : World) : Prop :=
  ∃ (i : Nat) (f : Bool), i ≤ n ∧ (∀ k (r : Rw), k < i → rs[k]? = some r → r.1 < t) ∧ (∀ k (r : Rw), i ≤ k → rs[k]? = some r → t ≤ r.1) ∧ (f = true ↔ ∃ r : Rw, rs[i]? = some r ∧ r.1 = t) ∧ e = .returned (.tuple #[.int .i64 i, .bool f]) ∧ Below w.heap.size w w'
set_option maxRecDepth 6000 in
theorem bs (a : Option Addr) (n c : Nat) (t : Int) (rs : List Rw) (w : World) (hn : n ≤ 4611686018427387903) (h : Rws w a n rs) (hs : Hid (Rising rs)) : Calls Try.prog 16 #[.slice a n c, .int .i64 t, .func (.func 17) #[] #[]] w
      fun e w' => BsPost rs n t w e w' := by
  go_enter Try.func16, Try.ntmps16
  go_wp2_with fail
  have S1 := hide (fun (k : Nat) (r : Rw) (hk : rs[k]? = some r) => (List.getElem?_eq_some_iff.1 hk).1)
  go_loopw [9, 10] (fun vi vj wr => ∃ i j : Nat, i ≤ j ∧ j ≤ n ∧ vi = .int .i64 i ∧ vj = .int .i64 j ∧ Below w.heap.size w wr ∧ Hid (∀ k r, k < i → rs[k]? = some r → r.1 < t) ∧ Hid (∀ k r, j ≤ k → rs[k]? = some r → t ≤ r.1)) (fun vi vj _ => (intOf vj).toNat - (intOf vi).toNat)
  case atStart => exact ⟨0, n, Nat.zero_le _, Nat.le_refl _, rfl, rfl, Below.refl _ _, fun k r hk => by omega, fun k r hk hr => by have := (List.getElem?_eq_some_iff.1 hr).1; have := h.len; omega⟩
  case round =>
    obtain ⟨i, j, hij, hjn, rfl, rfl, hbk, lo, hi⟩ := hrel
    by_cases hlt : i < j
    · have ki : (i : Int) < (j : Int) := by omega
      rcases (h.below hbk).at_ with h0 | ⟨b, off, rfl, hbw, hcell⟩
      · omega
      obtain ⟨r, hr, k0, k1, k2, k3, k4⟩ := hcell ((i + j) / 2) (by omega)
      obtain ⟨x, kk, v⟩ := r
      have hr := hide hr
      clear hcell
      go_wp2_with fail
      refine (cmp_row x kk v t _).mono ?_
      rintro e w2 ⟨rfl, hb2⟩
      have hb2 := hbk.trans (hb2.mono hbk.size)
      by_cases hx : x < t
      · have hc : c3 x t < 0 := by rw [c3_lt hx]; decide
        go_wp2
        go_roundw
        case rel => exact ⟨(i + j) / 2 + 1, j, by omega, hjn, by go_num, rfl, hb2, rising_lo (unhide hs) (unhide hr) hx, hi⟩
        case measure => simp [intOf]; omega
      · have hc : ¬ c3 x t < 0 := by
          rcases Int.lt_trichotomy x t with h1 | h1 | h1
          · exact absurd h1 hx
          · rw [c3_eq h1]; decide
          · rw [c3_gt h1]; decide
        go_wp2
        go_roundw
        case rel => exact ⟨i, (i + j) / 2, by omega, by omega, rfl, by go_num, hb2, lo, rising_hi (unhide hs) (unhide hr) hx⟩
        case measure => simp [intOf]; omega
    · have ki : ¬ (i : Int) < (j : Int) := by omega
      obtain rfl : i = j := by omega
      by_cases hin : i < n
      · have ki : (i : Int) < (n : Int) := by omega
        rcases (h.below hbk).at_ with h0 | ⟨b, off, rfl, hbw, hcell⟩
        · omega
        obtain ⟨r, hr, k0, k1, k2, k3, k4⟩ := hcell i (by omega)
        obtain ⟨x, kk, v⟩ := r
        have hr := hide hr
        clear hcell
        go_wp2_with fail
        refine (cmp_row x kk v t _).mono ?_
        rintro e w2 ⟨rfl, hb2⟩
        have hb2 := hbk.trans (hb2.mono hbk.size)
        go_wp2
        go_ret2
        exact ⟨i, c3 x t == 0, hjn, unhide lo, unhide hi, found (unhide hr), rfl, hb2⟩
      · have ki : ¬ (i : Int) < (n : Int) := by omega
        go_wp2
        go_ret2
        exact ⟨i, false, by omega, unhide lo, unhide hi, by
          rw [List.getElem?_eq_none (by have := h.len; omega)]
          simp, rfl, hbk⟩
end Go.Proofs.Ytlgmonphhimbdaa.knd
