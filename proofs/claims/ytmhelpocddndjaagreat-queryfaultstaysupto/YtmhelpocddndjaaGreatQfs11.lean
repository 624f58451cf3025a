import Derived.Test.YtmhelpocddndjaaGreatQfs10
import Derived.Test.YtmhelpocddndjaaGreatQfs9
import Derived.Test.YtmhelpocddndjaaGreatQfs4
import Derived.Test.YtmhelpocddndjaaGreatQfs5
import Derived.Test.YtmhelpocddndjaaGreatQfs6
import Derived.Test.YtmhelpocddndjaaGreatQfs7
namespace Go.Proofs.YtmhelpocddndjaaGreat.sv
open Go.ChangeShapes Go.WideShapes Go.ChangeAt Go.RowKit
open mem
open ints (hide unhide)
set_option linter.unusedVariables false
/-- how much lines hold, with an end each -/
def sz : List (List Int) → Nat
  | [] => 0
  | x :: L => x.length + 1 + sz L
theorem sz_app (A B : List (List Int)) : sz (A ++ B) = sz A + sz B := by
  induction A with
  | nil => simp [sz]
  | cons x A ih => simp only [List.cons_append, sz, ih]; omega
theorem jn_sz : ∀ (L : List (List Int)), (jn L).length ≤ sz L - 1
  | [] => by simp [jn]
  | [x] => by simp [jn, sz]
  | x :: y :: r => by
    have ih := jn_sz (y :: r)
    rw [jn, sz]
    simp only [List.length_append, List.length_cons]
    have : 1 ≤ sz (y :: r) := by simp only [sz]; omega
    omega
theorem len_sz : ∀ (L : List (List Int)), L.length ≤ sz L
  | [] => by simp [sz]
  | x :: L => by have := len_sz L; simp only [List.length_cons, sz]; omega
theorem get_sz : ∀ (L : List (List Int)) (i : Nat), (L.getD i []).length ≤ sz L - 1
  | [], i => by simp
  | x :: L, 0 => by simp only [sz, List.getD_cons_zero]; omega
  | x :: L, i + 1 => by
    have := get_sz L i
    simp only [sz, List.getD_cons_succ]
    omega
theorem sz_map (c : Nat) : ∀ (L : List (List Int)), sz (L.map (List.drop c)) ≤ sz L
  | [] => by simp [sz]
  | x :: L => by have := sz_map c L; simp only [List.map_cons, sz, List.length_drop]; omega
theorem sz_cutF (f c : Nat) (L : List (List Int)) : sz (cutF f c L) ≤ sz L := by
  unfold cutF
  split
  · cases L with
    | nil => simp [cutL]
    | cons x L => have := sz_map c L; simp only [cutL, sz]; omega
  · exact sz_map c L
theorem sz_trm (L : List (List Int)) : sz (trm L) ≤ sz L := by
  rcases trm_form L with ⟨h, _⟩ | ⟨A, B, h, _⟩
  · rw [h]; simp [sz]
  · have : sz L = sz (A ++ trm L ++ B) := by rw [← h]
    rw [this, sz_app, sz_app]
    omega
theorem sz_dd (L : List (List Int)) : sz (dd L) ≤ sz L := Nat.le_trans (sz_cutF _ _ _) (sz_trm L)
theorem sz_pre (c : Int) (L : List (List Int)) (h : L ≠ []) : sz (pre c L) = sz L + 1 := by
  cases L with
  | nil => exact absurd rfl h
  | cons x L => simp only [pre, sz, List.length_cons]; omega
theorem sz_lns : ∀ (l : List Int), sz (lns l) ≤ l.length + 1
  | [] => by simp [lns, sz]
  | c :: r => by
    have ih := sz_lns r
    rw [lns]
    split
    · simp only [sz, List.length_nil, List.length_cons]; omega
    · split
      · split
        · simp only [List.length_cons]; omega
        · simp only [sz, List.length_nil, List.length_cons]; omega
      · rw [sz_pre c _ (lns_ne r), List.length_cons]; omega
theorem blkF_len : ∀ (k : Nat) (l : List Int) (q : Nat) (o : Bool) (r : List Int × Bool), lx.blkF k l q o = some r → r.1.length ≤ l.length
  | 0, l, q, o, r, h => by
    unfold lx.blkF at h
    split at h
    · simp at h; subst h; simp
    · cases h
  | k + 1, l, q, o, r, h => by
    unfold lx.blkF at h
    split at h
    · simp at h; subst h; simp
    · rename_i h0
      split at h
      · rename_i he
        have h4 := lx.eqB_len l he
        cases e : lx.blkF k (l.drop 4) 0 false with
        | none => rw [e] at h; cases h
        | some r2 =>
          rw [e] at h
          simp at h
          subst h
          have := blkF_len k _ _ _ _ e
          simp at this ⊢
          omega
      · split at h
        · split at h
          · cases h
          · cases e : lx.blkF k (l.drop 1) (q + 1) true with
            | none => rw [e] at h; cases h
            | some r2 =>
              rw [e] at h
              simp at h
              subst h
              have := blkF_len k _ _ _ _ e
              simp at this ⊢
              omega
        · split at h
          · cases h
          · cases e : lx.blkF k (l.drop 1) 0 (decide (lx.cAt l 0 = 92)) with
            | none => rw [e] at h; cases h
            | some r2 =>
              rw [e] at h
              simp at h
              subst h
              have := blkF_len k _ _ _ _ e
              simp at this ⊢
              omega
theorem blk_len (l : List Int) (r : List Int × Bool) (h : lx.blk l = some r) : r.1.length ≤ l.length := blkF_len _ _ _ _ _ h
/-- what strval.Block answers -/
def bS (l : List Int) : ByteArray := match lx.blk l with
  | some (r, true) => encS (jn (dd (lns r)))
  | _ => ⟨#[]⟩
def bE (l : List Int) : Int := match lx.blk l with
  | some (_, true) => 0
  | _ => 60
set_option maxHeartbeats 4000000 in
theorem block_ok (a : Option Addr) (n c : Nat) (l : List Int) (w : World) (h : Row .i32 w a n c l) (hn : n ≤ 1099511627776) :
    Calls Tryz.prog 67 #[.slice a n c] w fun e w' => e = .returned (.tuple #[.string (bS l), .int .i64 (bE l)]) ∧ Below w.heap.size w w' := by
  have HB := hide (lx.blockChars_ok a n c l w h hn)
  have hl := h.len
  unfold bS bE
  unfold lx.BlkPost at HB
  cases e : lx.blk l with
  | none =>
    rw [e] at HB
    clear e
    go_enter Tryz.func67, Tryz.ntmps67
    go_wp2_with fail
    refine (unhide HB).mono ?_
    rintro e w1 ⟨rfl, b1⟩
    clear HB
    go_wp2
    go_ret2
    exact ⟨rfl, b1⟩
  | some r =>
    have hr := blk_len l r e
    rw [e] at HB
    clear e
    obtain ⟨r, o⟩ := r
    simp only at hr
    cases o with
    | false =>
      go_enter Tryz.func67, Tryz.ntmps67
      go_wp2_with fail
      refine (unhide HB).mono ?_
      rintro e w1 ⟨⟨v, rfl, _⟩, b1⟩
      clear HB
      go_wp2
      go_ret2
      exact ⟨rfl, b1⟩
    | true =>
      have z1 := sz_lns r
      have z2 := sz_dd (lns r)
      have z3 := jn_sz (dd (lns r))
      have z4 := len_sz (lns r)
      have z5 := len_sz (dd (lns r))
      have z6 : 0 < (lns r).length := List.length_pos_iff.2 (lns_ne r)
      have HZ := hide (show ∀ i, ((lns r).getD i []).length ≤ 1099511627776 from fun i => by have := get_sz (lns r) i; omega)
      go_enter Tryz.func67, Tryz.ntmps67
      go_wp2_with fail
      refine (unhide HB).mono ?_
      rintro e w1 ⟨⟨v, rfl, hown⟩, b1⟩
      clear HB
      obtain ⟨a1, c1, rfl, hrow⟩ := own_row hown
      clear hown
      simp only
      go_wp2_with fail
      refine (lines_any a1 _ c1 r w1 hrow (by omega)).mono ?_
      rintro e w2 ⟨v2, gs, rfl, hat, b2⟩
      rw [linesL_eq] at hat
      obtain ⟨b, c2, rfl, hln⟩ := lns_of hat z6
      clear hat
      have b12 := b1.trans (b2.mono b1.size)
      generalize hL : lns r = L at *
      have HLr := hide hL
      clear hL
      go_wp2_with fail
      refine (dedent_ok b _ c2 L w2 hln z6 (by omega) (unhide HZ)).mono ?_
      rintro e w3 ⟨g, rfl, hln3, b3⟩
      have b13 := b12.trans (b3.mono b12.size)
      generalize hD : dd L = D at *
      have HDr := hide hD
      clear hD
      go_wp2_with fail
      refine (joined_ok g 0 _ _ D w3 hln3 (by omega) (by omega)).mono ?_
      rintro e w4 ⟨v4, rfl, hown4, b4⟩
      have b14 := b13.trans (b4.mono b13.size)
      obtain ⟨a4, c4, rfl, hrow4⟩ := own_row hown4
      clear hown4
      go_wp2_with fail
      refine (encode_any a4 _ c4 (jn D) w4 hrow4 (by omega)).mono ?_
      rintro e w5 ⟨rfl, b5⟩
      have b15 := b14.trans (b5.mono b14.size)
      go_wp2
      go_ret2
      exact ⟨by rw [unhide HLr, unhide HDr]; rfl, b15⟩
end Go.Proofs.YtmhelpocddndjaaGreat.sv
namespace Go.Proofs.YtmhelpocddndjaaGreat.lx
open Go.ChangeShapes Go.WideShapes Go.ChangeAt Go.RowKit
open ints (hide unhide hexV)
open mem
set_option linter.unusedVariables false
set_option maxHeartbeats 4000000 in
set_option maxRecDepth 4000 in
theorem qtd_ok (a : Option Addr) (n c : Nat) (cl : Bool) (l : List Int) (p : Nat) (w : World) (h : Row .i32 w a n c l) (hn : n ≤ 1099511627776) (hp : p < n) (hs : ∀ x ∈ l, scP x) :
    Calls Tryz.prog 49 #[src a n c cl, .int .i64 (p : Int)] w fun e w' => e = .returned (.tuple #[.int .i64 (qtd l p).1, .int .i64 ((qtd l p).2.1 : Int), .string (qtd l p).2.2]) ∧ Below w.heap.size w w' := by
  have hl := hide h.len
  have hle := h.le
  obtain ⟨b, off, rfl⟩ : ∃ b off, a = some ⟨b, off, none⟩ := by
    rcases h.at_ with h1 | ⟨b, off, e, _⟩
    · omega
    · exact ⟨b, off, e⟩
  have HS := hide hs
  clear hs
  obtain ⟨R, hR⟩ : ∃ R, R = endQ l (n + 2) (p + 1) := ⟨_, rfl⟩
  have HQ := hide (show qtd l p = qtdR l p R from by unfold qtd; rw [unhide hl, hR])
  have HR := hide hR.symm
  clear hR
  unfold src
  have hsb := hide (Sb.new w (some ⟨b, off, none⟩) n c cl)
  go_enter Tryz.func49, Tryz.ntmps49
  go_wp2_with fail
  obtain ⟨w1, hw1⟩ : ∃ w1, w1 = w.alloc (.cells #[.slice (some ⟨b, off, none⟩) n c, .bool cl] 79) := ⟨_, rfl⟩
  rw [← hw1] at hsb ⊢
  clear hw1
  go_loopg [8] (n + 1) (fun g vi wr => ∃ k fu : Nat, p + 1 ≤ k ∧ k ≤ n ∧ n + 1 ≤ g + k ∧ n + 1 ≤ fu + k ∧ vi = .int .i64 k ∧ Hid (endQ l fu k = R) ∧ Sb w wr (some ⟨b, off, none⟩) n c cl)
  case atStart => exact ⟨p + 1, n + 2, by omega, by omega, by omega, by omega, by go_num, HR, unhide hsb⟩
  case round =>
    obtain ⟨k, fu, hpk, hk, hg, hf, rfl, hik, hs⟩ := hrel
    obtain ⟨f2, rfl⟩ : ∃ f2, fu = f2 + 1 := ⟨fu - 1, by omega⟩
    have hik' := hide (show (if cAt l k = 34 then some k
      else if cAt l k = 92 then (if cAt l (k + 1) = 10 ∨ cAt l (k + 1) = 13 ∨ soB (cAt l (k + 1)) = false then none else endQ l f2 (k + 2))
      else if cAt l k = 10 ∨ cAt l k = 13 ∨ soB (cAt l k) = false then none else endQ l f2 (k + 1)) = R from unhide hik)
    clear hik
    have d0 := hs.c0
    have d1 := hs.c1
    go_wp2_with fail
    refine (at_ok _ n c cl l k wr (h.below hs.bel) (by omega)).mono ?_
    rintro e w2 ⟨rfl, b2⟩
    have hs2 := hs.below b2
    obtain ⟨x, hx⟩ : ∃ x, x = cAt l k := ⟨_, rfl⟩
    rw [← hx] at hik' ⊢
    have Hx := hide hx.symm
    clear hx hs d0 d1
    have d0 := hs2.c0
    have d1 := hs2.c1
    by_cases h34 : x = 34
    · have hRk := hide (show R = some k from by rw [← unhide hik', if_pos h34])
      have hkn : k < n := by rw [← unhide hl]; exact cAt_34 l k (by rw [unhide Hx, h34])
      have kc : (k : Int) ≤ (c : Int) := by omega
      have pc : ¬ c = p + 1 := by omega
      have HU := hide (quoted_ok _ _ _ _ w2 ((row_mid h (p + 1) k hpk (by omega)).below hs2.bel) (by omega) (fun x hx => unhide HS x (List.mem_of_mem_drop (List.mem_of_mem_take hx))))
      have HB := hide (fun W => bad_ok p W)
      subst h34
      clear hik' Hx
      go_wp2_with fail
      refine (unhide HU).mono ?_
      rintro e w3 ⟨rfl, b3⟩
      cases hq : quo (insZ l (p + 1) k) with
      | none =>
        have HF := hide (show qtd l p = (1, p, ⟨#[]⟩) from by rw [unhide HQ, unhide hRk]; unfold qtdR; simp only [hq])
        rw [show quoS (insZ l (p + 1) k) = ⟨#[]⟩ from by unfold quoS; rw [hq], show quoE (insZ l (p + 1) k) = 60 from by unfold quoE; rw [hq]]
        clear hq
        go_wp2_with fail
        refine (unhide HB _).mono ?_
        rintro e w4 ⟨rfl, rfl⟩
        go_wp2_with fail
        go_ret3
        exact ⟨by rw [unhide HF]; rfl, hs2.bel.trans (b3.mono hs2.bel.size)⟩
      | some r =>
        have HF := hide (show qtd l p = (6, k + 1, encS r) from by rw [unhide HQ, unhide hRk]; unfold qtdR; simp only [hq])
        rw [show quoS (insZ l (p + 1) k) = encS r from by unfold quoS; rw [hq], show quoE (insZ l (p + 1) k) = 0 from by unfold quoE; rw [hq]]
        clear hq
        go_wp2_with fail
        go_ret3
        exact ⟨by rw [unhide HF]; rfl, hs2.bel.trans (b3.mono hs2.bel.size)⟩
    · have e34 : (x != 34) = true := by simpa using h34
      go_wp2_with fail
      refine (at_ok _ n c cl l k w2 (h.below hs2.bel) (by omega)).mono ?_
      rintro e w3 ⟨rfl, b3⟩
      rw [unhide Hx]
      have hs3 := hs2.below b3
      clear d0 d1
      have d0 := hs3.c0
      have d1 := hs3.c1
      by_cases h92 : x = 92
      · subst h92
        have hik1 := hide (show (if cAt l (k + 1) = 10 ∨ cAt l (k + 1) = 13 ∨ soB (cAt l (k + 1)) = false then none else endQ l f2 (k + 2)) = R from by
          have e := unhide hik'
          rw [if_neg (show ¬ (92 : Int) = 34 by decide), if_pos rfl] at e
          exact e)
        clear hik' Hx h34 e34
        obtain ⟨x, hx⟩ : ∃ x, x = cAt l (k + 1) := ⟨_, rfl⟩
        have hik2 := hide (show (if x = 10 ∨ x = 13 ∨ soB x = false then none else endQ l f2 (k + 2)) = R from by rw [hx]; exact unhide hik1)
        have Hx := hide hx.symm
        clear hx hik1
        go_wp2_with fail
        rw [show ((k : Int) + 1) = ((k + 1 : Nat) : Int) by omega]
        refine (at_ok _ n c cl l (k + 1) w3 (h.below hs3.bel) (by omega)).mono ?_
        rintro e w4 ⟨rfl, b4⟩
        rw [unhide Hx]
        have hs4 := hs3.below b4
        clear d0 d1
        have d0 := hs4.c0
        have d1 := hs4.c1
        by_cases hc : x = 10 ∨ x = 13
        · have HF := hide (show qtd l p = (1, p, ⟨#[]⟩) from by rw [unhide HQ, ← unhide hik2, if_pos (by rcases hc with e | e; exact .inl e; exact .inr (.inl e))]; rfl)
          have HB := hide (fun W => bad_ok p W)
          clear hik2 Hx
          rcases hc with rfl | rfl
          · go_wp2_with fail
            refine (unhide HB _).mono ?_
            rintro e w5 ⟨rfl, rfl⟩
            go_wp2_with fail
            go_ret3
            exact ⟨by rw [unhide HF]; rfl, hs4.bel⟩
          · go_wp2_with fail
            refine (unhide HB _).mono ?_
            rintro e w5 ⟨rfl, rfl⟩
            go_wp2_with fail
            go_ret3
            exact ⟨by rw [unhide HF]; rfl, hs4.bel⟩
        have g1 : (x == 10) = false := by simp; exact fun e => hc (.inl e)
        have g2 : (x == 13) = false := by simp; exact fun e => hc (.inr e)
        have n1 : ¬ x = 10 := fun e => hc (.inl e)
        have n2 : ¬ x = 13 := fun e => hc (.inr e)
        clear hc
        go_wp2_with fail
        refine (source_ok x _).mono ?_
        rintro e w5 ⟨rfl, rfl⟩
        cases hsx : soB x with
        | false =>
          have HF := hide (show qtd l p = (1, p, ⟨#[]⟩) from by rw [unhide HQ, ← unhide hik2, if_pos (.inr (.inr hsx))]; rfl)
          have HB := hide (fun W => bad_ok p W)
          clear hik2 Hx hsx
          go_wp2_with fail
          refine (unhide HB _).mono ?_
          rintro e w6 ⟨rfl, rfl⟩
          go_wp2_with fail
          go_ret3
          exact ⟨by rw [unhide HF]; rfl, hs4.bel⟩
        | true =>
          have hkn : k + 1 < n := by rw [← unhide hl]; exact cAt_so l (k + 1) (by rw [unhide Hx, hsx])
          have hik3 := hide (show endQ l f2 (k + 2) = R from by rw [← unhide hik2, if_neg (fun e => by rcases e with e | e | e; exact n1 e; exact n2 e; rw [hsx] at e; cases e)])
          clear hik2 Hx hsx
          go_wp2_with fail
          go_roundg (gk - 1)
          case rel => exact ⟨k + 2, f2, by omega, by omega, by omega, by omega, by go_num, hik3, hs4⟩
          case measure => omega
      · have e92 : (x == 92) = false := by simpa using h92
        have hik2 := hide (show (if x = 10 ∨ x = 13 ∨ soB x = false then none else endQ l f2 (k + 1)) = R from by rw [← unhide hik', if_neg h34, if_neg h92])
        clear hik'
        go_wp2_with fail
        refine (at_ok _ n c cl l k w3 (h.below hs3.bel) (by omega)).mono ?_
        rintro e w4 ⟨rfl, b4⟩
        rw [unhide Hx]
        have hs4 := hs3.below b4
        clear d0 d1
        have d0 := hs4.c0
        have d1 := hs4.c1
        by_cases hc : x = 10 ∨ x = 13
        · have HF := hide (show qtd l p = (1, p, ⟨#[]⟩) from by rw [unhide HQ, ← unhide hik2, if_pos (by rcases hc with e | e; exact .inl e; exact .inr (.inl e))]; rfl)
          have HB := hide (fun W => bad_ok p W)
          clear hik2 Hx
          rcases hc with rfl | rfl
          · go_wp2_with fail
            refine (unhide HB _).mono ?_
            rintro e w5 ⟨rfl, rfl⟩
            go_wp2_with fail
            go_ret3
            exact ⟨by rw [unhide HF]; rfl, hs4.bel⟩
          · go_wp2_with fail
            refine (unhide HB _).mono ?_
            rintro e w5 ⟨rfl, rfl⟩
            go_wp2_with fail
            go_ret3
            exact ⟨by rw [unhide HF]; rfl, hs4.bel⟩
        have g1 : (x == 10) = false := by simp; exact fun e => hc (.inl e)
        have g2 : (x == 13) = false := by simp; exact fun e => hc (.inr e)
        have n1 : ¬ x = 10 := fun e => hc (.inl e)
        have n2 : ¬ x = 13 := fun e => hc (.inr e)
        clear hc
        go_wp2_with fail
        refine (source_ok x _).mono ?_
        rintro e w5 ⟨rfl, rfl⟩
        cases hsx : soB x with
        | false =>
          have HF := hide (show qtd l p = (1, p, ⟨#[]⟩) from by rw [unhide HQ, ← unhide hik2, if_pos (.inr (.inr hsx))]; rfl)
          have HB := hide (fun W => bad_ok p W)
          clear hik2 Hx hsx
          go_wp2_with fail
          refine (unhide HB _).mono ?_
          rintro e w6 ⟨rfl, rfl⟩
          go_wp2_with fail
          go_ret3
          exact ⟨by rw [unhide HF]; rfl, hs4.bel⟩
        | true =>
          have hkn : k < n := by rw [← unhide hl]; exact cAt_so l k (by rw [unhide Hx, hsx])
          have hik3 := hide (show endQ l f2 (k + 1) = R from by rw [← unhide hik2, if_neg (fun e => by rcases e with e | e | e; exact n1 e; exact n2 e; rw [hsx] at e; cases e)])
          clear hik2 Hx hsx
          go_wp2_with fail
          go_roundg (gk - 1)
          case rel => exact ⟨k + 1, f2, by omega, by omega, by omega, by omega, by go_num, hik3, hs4⟩
          case measure => omega
end Go.Proofs.YtmhelpocddndjaaGreat.lx
namespace Go.Proofs.YtmhelpocddndjaaGreat.lx
open Go.ChangeShapes Go.WideShapes Go.ChangeAt Go.RowKit
open ints (hide unhide)
open mem (Row)
set_option linter.unusedVariables false
def E0 : ByteArray := ⟨#[]⟩
/-- the token that begins at i: its kind, the place behind it, its value -/
def rdG (l : List Int) (cl : Bool) (i : Nat) : Int × Nat × ByteArray :=
  if i = l.length ∧ cl = true then (0, i, E0)
  else if cAt l i = 46 then (if cAt l (i + 1) = 46 ∧ cAt l (i + 2) = 46 then (2, i + 3, E0) else (1, i, E0))
  else if puB (cAt l i) then (2, i + 1, E0)
  else if nsB (cAt l i) then (3, nam l (i + 1), E0)
  else if cAt l i = 45 ∨ mem.digB (cAt l i) then ((num l i).1, (num l i).2, E0)
  else if tq l i = true then blc sv.bS l i
  else if cAt l i = 34 then qtd l i
  else (1, i, E0)
set_option maxHeartbeats 8000000 in
theorem rdG_ok (a : Option Addr) (n c : Nat) (cl : Bool) (l : List Int) (i : Nat) (w : World) (h : Row .i32 w a n c l) (hn : n ≤ 1099511627776) (hi : i ≤ n) (hs : ∀ x ∈ l, mem.scP x) :
    Calls Tryz.prog 26 #[src a n c cl, .int .i64 (i : Int)] w fun e w' => e = .returned (.tuple #[.int .i64 (rdG l cl i).1, .int .i64 ((rdG l cl i).2.1 : Nat), .string (rdG l cl i).2.2]) ∧ Below w.heap.size w w' := by
  have hl := hide h.len
  have hsb := hide (Sb.new w a n c cl)
  have hN := hide (show rdG l cl i = (if i = l.length ∧ cl = true then (0, i, E0)
    else if cAt l i = 46 then (if cAt l (i + 1) = 46 ∧ cAt l (i + 2) = 46 then (2, i + 3, E0) else (1, i, E0))
    else if puB (cAt l i) then (2, i + 1, E0)
    else if nsB (cAt l i) then (3, nam l (i + 1), E0)
    else if cAt l i = 45 ∨ mem.digB (cAt l i) then ((num l i).1, (num l i).2, E0)
    else if tq l i = true then blc sv.bS l i
    else if cAt l i = 34 then qtd l i
    else (1, i, E0)) from rfl)
  obtain ⟨N, hNe⟩ : ∃ N, N = rdG l cl i := ⟨_, rfl⟩
  rw [← hNe] at hN ⊢
  clear hNe
  have hA := hide (fun W (hb : Below w.heap.size w W) (k : Nat) => at_ok a n c cl l k W (h.below hb) (by omega))
  have hxs : mem.scP (cAt l i) ∨ cAt l i = -1 := by
    rcases Nat.lt_or_ge i l.length with h1 | h1
    · left
      rw [cAt_in h1]
      exact hs _ (by rw [List.getD_eq_getElem?_getD, List.getElem?_eq_getElem h1]; exact List.getElem_mem h1)
    · exact .inr (cAt_end h1)
  have hend : i = n → cAt l i = -1 ∧ tq l i = false := fun e => by
    have h1 : cAt l i = -1 := cAt_end (by rw [h.len]; omega)
    refine ⟨h1, ?_⟩
    unfold tq
    rw [h1]
    simp
  have htq := hide (fun W (hb : Below w.heap.size w W) => tq_ok a n c cl l i W (h.below hb) hn (by omega))
  have hbc := hide (fun W (hb : Below w.heap.size w W) (ht : tq l i = true) => blc_ok sv.bS sv.bE (fun a n c l w h hn _ => sv.block_ok a n c l w h hn) a n c cl l i W (h.below hb) hn (by have := tq_len l i ht; rw [h.len] at this; omega) hs)
  have hqt := hide (fun W (hb : Below w.heap.size w W) (hlt : i < n) => qtd_ok a n c cl l i W (h.below hb) hn hlt hs)
  have hct := hide (fun W => contains_any (cAt l i) W hxs)
  obtain ⟨x, hx⟩ : ∃ x, x = cAt l i := ⟨_, rfl⟩
  have hX := hide hx
  rw [← hx] at hN hend hct
  clear hx hxs hs
  unfold src
  go_enter Tryz.func26, Tryz.ntmps26
  go_wp2_with fail
  obtain ⟨w1, hw1⟩ : ∃ w1, w1 = w.alloc (.cells #[.slice a n c, .bool cl] 79) := ⟨_, rfl⟩
  rw [← hw1] at hsb ⊢
  clear hw1
  refine ((unhide hA) w1 (unhide hsb).bel i).mono ?_
  rintro e w2 ⟨rfl, b2⟩
  have hs2 := (unhide hsb).below b2
  rw [← unhide hX]
  have d0 := hs2.c0
  have d1 := hs2.c1
  have F : ∀ (T : Nat) (V : ByteArray) (K : Int), N = (K, T, V) → Ending.returned (.tuple #[.int .i64 K, .int .i64 (T : Int), .string V]) = .returned (.tuple #[.int .i64 N.1, .int .i64 (N.2.1 : Nat), .string N.2.2]) := fun T V K e => by rw [e]
  have HF := hide F
  clear F
  by_cases hin : i = n
  · obtain ⟨hx1, htf⟩ := hend hin
    cases cl with
    | true =>
      have hN2 := hide (show N = (0, i, E0) from by rw [unhide hN, if_pos ⟨by rw [unhide hl]; exact hin, rfl⟩])
      subst hin
      clear hx1 htf hend
      go_wp2_with fail
      go_ret3
      exact ⟨(unhide HF) _ _ _ (unhide hN2), hs2.bel⟩
    | false =>
      have hN2 := hide (show N = (1, i, E0) from by
        rw [unhide hN, if_neg (fun e => by cases e.2), hx1, htf]
        rfl)
      rw [htf] at htq
      rw [hx1] at hct
      subst hin
      subst hx1
      clear htf hend hN
      go_wp2_with fail
      refine ((unhide hct) _).mono ?_
      rintro e w3 ⟨rfl, b3⟩
      have hs3 := hs2.below b3
      clear d0 d1
      have d0 := hs3.c0
      have d1 := hs3.c1
      have e1 : puB (-1) = false := by decide
      have e2 : nsB (-1) = false := by decide
      have e3 : mem.digB (-1) = false := by decide
      rw [e1]
      go_wp2_with fail
      refine (ns_ok (-1) _).mono ?_
      rintro e w4 ⟨rfl, rfl⟩
      rw [e2]
      go_wp2_with fail
      refine (digit_ok (-1) _).mono ?_
      rintro e w4 ⟨rfl, rfl⟩
      rw [e3]
      go_wp2_with fail
      refine ((unhide htq) _ hs3.bel).mono ?_
      rintro e w4 ⟨rfl, b4⟩
      have hs4 := hs3.below b4
      go_wp2_with fail
      refine (bad_ok _ _).mono ?_
      rintro e w5 ⟨rfl, rfl⟩
      go_wp2_with fail
      go_ret3
      exact ⟨(unhide HF) _ _ _ (unhide hN2), hs4.bel⟩
  · have hlt : i < n := by omega
    have ene : ((i : Int) == (n : Int)) = false := by simp; omega
    have hN1 := hide (show N = (if x = 46 then (if cAt l (i + 1) = 46 ∧ cAt l (i + 2) = 46 then (2, i + 3, E0) else (1, i, E0))
      else if puB x then (2, i + 1, E0)
      else if nsB x then (3, nam l (i + 1), E0)
      else if x = 45 ∨ mem.digB x then ((num l i).1, (num l i).2, E0)
      else if tq l i = true then blc sv.bS l i
      else if x = 34 then qtd l i
      else (1, i, E0)) from by rw [unhide hN, if_neg (fun e => hin (by rw [e.1, unhide hl]))])
    have hnm := hide (fun W (hb : Below w.heap.size w W) => nam_ok a n c cl l (i + 1) W (h.below hb) hn (by omega))
    have hnu := hide (fun W (hb : Below w.heap.size w W) => num_ok a n c cl l i W (h.below hb) hn hi)
    clear hN hend hin
    by_cases h46 : x = 46
    · subst h46
      have hN2 := hide (show N = (if cAt l (i + 1) = 46 ∧ cAt l (i + 2) = 46 then (2, i + 3, E0) else (1, i, E0)) from unhide hN1)
      clear hN1
      go_wp2_with fail
      rw [show ((i : Int) + 1) = ((i + 1 : Nat) : Int) by omega]
      refine ((unhide hA) _ hs2.bel (i + 1)).mono ?_
      rintro e w3 ⟨rfl, b3⟩
      have hs3 := hs2.below b3
      clear d0 d1
      have d0 := hs3.c0
      have d1 := hs3.c1
      obtain ⟨y, hy⟩ : ∃ y, y = cAt l (i + 1) := ⟨_, rfl⟩
      rw [← hy] at hN2 ⊢
      clear hy
      by_cases hy46 : y = 46
      · subst hy46
        go_wp2_with fail
        rw [show ((i : Int) + 2) = ((i + 2 : Nat) : Int) by omega]
        refine ((unhide hA) _ hs3.bel (i + 2)).mono ?_
        rintro e w4 ⟨rfl, b4⟩
        have hs4 := hs3.below b4
        obtain ⟨z, hz⟩ : ∃ z, z = cAt l (i + 2) := ⟨_, rfl⟩
        rw [← hz] at hN2 ⊢
        clear hz
        by_cases hz46 : z = 46
        · subst hz46
          have hN3 := hide (show N = (2, i + 3, E0) from by rw [unhide hN2]; simp)
          go_wp2_with fail
          go_ret3
          exact ⟨(by have := (unhide HF) _ _ _ (unhide hN3); rw [← this]; go_num), hs4.bel⟩
        · have e46 : (z != 46) = true := by simpa using hz46
          have hN3 := hide (show N = (1, i, E0) from by rw [unhide hN2, if_neg (fun e => hz46 e.2)])
          clear hz46
          go_wp2_with fail
          refine (bad_ok i _).mono ?_
          rintro e w5 ⟨rfl, rfl⟩
          go_wp2_with fail
          go_ret3
          exact ⟨(unhide HF) _ _ _ (unhide hN3), hs4.bel⟩
      · have e46 : (y != 46) = true := by simpa using hy46
        have hN3 := hide (show N = (1, i, E0) from by rw [unhide hN2, if_neg (fun e => hy46 e.1)])
        clear hy46
        go_wp2_with fail
        refine (bad_ok i _).mono ?_
        rintro e w5 ⟨rfl, rfl⟩
        go_wp2_with fail
        go_ret3
        exact ⟨(unhide HF) _ _ _ (unhide hN3), hs3.bel⟩
    · have e46 : (x == 46) = false := by simpa using h46
      have hN2 := hide (show N = (if puB x then (2, i + 1, E0)
        else if nsB x then (3, nam l (i + 1), E0)
        else if x = 45 ∨ mem.digB x then ((num l i).1, (num l i).2, E0)
        else if tq l i = true then blc sv.bS l i
        else if x = 34 then qtd l i
        else (1, i, E0)) from by rw [unhide hN1, if_neg h46])
      clear hN1 h46
      go_wp2_with fail
      refine ((unhide hct) _).mono ?_
      rintro e w3 ⟨rfl, b3⟩
      have hs3 := hs2.below b3
      clear d0 d1
      have d0 := hs3.c0
      have d1 := hs3.c1
      cases hpu : puB x
      · go_wp2_with fail
        refine (ns_ok x _).mono ?_
        rintro e w4 ⟨rfl, rfl⟩
        cases hns : nsB x
        · by_cases h45 : x = 45
          · subst h45
            have hN3 := hide (show N = ((num l i).1, (num l i).2, E0) from by rw [unhide hN2]; simp [hpu, hns])
            clear hN2
            go_wp2_with fail
            refine ((unhide hnu) _ hs3.bel).mono ?_
            rintro e w4 ⟨rfl, b4⟩
            have hs4 := hs3.below b4
            go_wp2_with fail
            go_ret3
            exact ⟨(unhide HF) _ _ _ (unhide hN3), hs4.bel⟩
          · have e45 : (x == 45) = false := by simpa using h45
            have H45 := hide h45
            clear h45
            go_wp2_with fail
            refine (digit_ok x _).mono ?_
            rintro e w4 ⟨rfl, rfl⟩
            cases hdg : mem.digB x
            · have hN3 := hide (show N = (if tq l i = true then blc sv.bS l i else if x = 34 then qtd l i else (1, i, E0)) from by rw [unhide hN2]; simp [hpu, hns, hdg, unhide H45])
              clear hN2
              cases htv : tq l i with
              | true =>
                have hN4 := hide (show N = blc sv.bS l i from by rw [unhide hN3, if_pos htv])
                have hbc2 := hide (fun W hb => (unhide hbc) W hb htv)
                rw [htv] at htq
                clear hN3 htv hbc
                go_wp2_with fail
                refine ((unhide htq) _ hs3.bel).mono ?_
                rintro e w4 ⟨rfl, b4⟩
                have hs4 := hs3.below b4
                clear d0 d1
                have d0 := hs4.c0
                have d1 := hs4.c1
                go_wp2_with fail
                refine ((unhide hbc2) _ hs4.bel).mono ?_
                rintro e w5 ⟨rfl, b5⟩
                have hs5 := hs4.below b5
                go_wp2_with fail
                go_ret3
                exact ⟨(unhide HF) _ _ _ (unhide hN4), hs5.bel⟩
              | false =>
                rw [htv] at htq
                by_cases h34 : x = 34
                · have hN4 := hide (show N = qtd l i from by rw [unhide hN3, htv, if_neg (by decide), if_pos h34])
                  have hqt2 := hide (fun W hb => (unhide hqt) W hb hlt)
                  subst h34
                  clear hN3 htv hbc hqt
                  go_wp2_with fail
                  refine ((unhide htq) _ hs3.bel).mono ?_
                  rintro e w4 ⟨rfl, b4⟩
                  have hs4 := hs3.below b4
                  clear d0 d1
                  have d0 := hs4.c0
                  have d1 := hs4.c1
                  go_wp2_with fail
                  refine ((unhide hqt2) _ hs4.bel).mono ?_
                  rintro e w5 ⟨rfl, b5⟩
                  have hs5 := hs4.below b5
                  go_wp2_with fail
                  go_ret3
                  exact ⟨(unhide HF) _ _ _ (unhide hN4), hs5.bel⟩
                · have e34 : (x == 34) = false := by simpa using h34
                  have hN4 := hide (show N = (1, i, E0) from by rw [unhide hN3, htv, if_neg (by decide), if_neg h34])
                  clear hN3 htv hbc hqt h34
                  go_wp2_with fail
                  refine ((unhide htq) _ hs3.bel).mono ?_
                  rintro e w4 ⟨rfl, b4⟩
                  have hs4 := hs3.below b4
                  go_wp2_with fail
                  refine (bad_ok i _).mono ?_
                  rintro e w5 ⟨rfl, rfl⟩
                  go_wp2_with fail
                  go_ret3
                  exact ⟨(unhide HF) _ _ _ (unhide hN4), hs4.bel⟩
            · have hN3 := hide (show N = ((num l i).1, (num l i).2, E0) from by rw [unhide hN2]; simp [hpu, hns, hdg])
              clear hN2
              go_wp2_with fail
              refine ((unhide hnu) _ hs3.bel).mono ?_
              rintro e w4 ⟨rfl, b4⟩
              have hs4 := hs3.below b4
              go_wp2_with fail
              go_ret3
              exact ⟨(unhide HF) _ _ _ (unhide hN3), hs4.bel⟩
        · have hN3 := hide (show N = (3, nam l (i + 1), E0) from by rw [unhide hN2]; simp [hpu, hns])
          clear hN2
          go_wp2_with fail
          refine ((unhide hnm) _ hs3.bel).mono ?_
          rintro e w4 ⟨rfl, b4⟩
          have hs4 := hs3.below b4
          go_wp2_with fail
          go_ret3
          exact ⟨(unhide HF) _ _ _ (unhide hN3), hs4.bel⟩
      · have hN3 := hide (show N = (2, i + 1, E0) from by rw [unhide hN2]; simp [hpu])
        clear hN2
        go_wp2_with fail
        go_ret3
        exact ⟨(by have := (unhide HF) _ _ _ (unhide hN3); rw [← this]; go_num), hs3.bel⟩
end Go.Proofs.YtmhelpocddndjaaGreat.lx
namespace Go.Proofs.YtmhelpocddndjaaGreat.lx
open Go.ChangeShapes Go.WideShapes Go.ChangeAt Go.RowKit
open ints (hide unhide)
open mem (Row)
open cu (Tk)
open dt (there_cells one_cells below_setCells)
set_option linter.unusedVariables false
theorem endB_le (l : List Int) : ∀ (k j i : Nat), endB l k j = some i → j ≤ i ∧ tq l i = true
  | 0, j, i, h => by cases h
  | k + 1, j, i, h => by
    unfold endB at h
    split at h
    · rename_i ht
      simp at h
      subst h
      exact ⟨Nat.le_refl _, ht⟩
    · split at h
      · have := endB_le l k _ _ h
        exact ⟨by omega, this.2⟩
      · split at h
        · cases h
        · have := endB_le l k _ _ h
          exact ⟨by omega, this.2⟩
theorem endQ_le (l : List Int) : ∀ (k j i : Nat), endQ l k j = some i → j ≤ i ∧ cAt l i = 34
  | 0, j, i, h => by cases h
  | k + 1, j, i, h => by
    unfold endQ at h
    split at h
    · rename_i ht
      simp at h
      subst h
      exact ⟨Nat.le_refl _, ht⟩
    · split at h
      · split at h
        · cases h
        · have := endQ_le l k _ _ h
          exact ⟨by omega, this.2⟩
      · split at h
        · cases h
        · have := endQ_le l k _ _ h
          exact ⟨by omega, this.2⟩
theorem blc_le (bS : List Int → ByteArray) (l : List Int) (i : Nat) (hi : i ≤ l.length) : i ≤ (blc bS l i).2.1 ∧ (blc bS l i).2.1 ≤ l.length ∧ ((blc bS l i).1 = 1 ∨ i < (blc bS l i).2.1) ∧ (blc bS l i).1 ≠ 0 := by
  unfold blc
  cases e : endB l (l.length + 2) (i + 3) with
  | none => exact ⟨Nat.le_refl _, hi, .inl rfl, by simp [blcR]⟩
  | some j =>
    have h1 := endB_le l _ _ _ e
    have h2 := tq_len l j h1.2
    simp only [blcR]
    exact ⟨by omega, by omega, .inr (by omega), by decide⟩
theorem qtd_le (l : List Int) (i : Nat) (hi : i ≤ l.length) : i ≤ (qtd l i).2.1 ∧ (qtd l i).2.1 ≤ l.length ∧ ((qtd l i).1 = 1 ∨ i < (qtd l i).2.1) ∧ (qtd l i).1 ≠ 0 := by
  unfold qtd
  cases e : endQ l (l.length + 2) (i + 1) with
  | none => exact ⟨Nat.le_refl _, hi, .inl rfl, by simp [qtdR]⟩
  | some j =>
    have h1 := endQ_le l _ _ _ e
    have h2 := cAt_34 l j h1.2
    simp only [qtdR]
    cases quo (insZ l (i + 1) j) with
    | none => exact ⟨Nat.le_refl _, hi, .inl rfl, by simp⟩
    | some r => exact ⟨by simp only; omega, by simp only; omega, .inr (by simp only; omega), by simp⟩
theorem rdG_le (l : List Int) (cl : Bool) (i : Nat) (hi : i ≤ l.length) : i ≤ (rdG l cl i).2.1 ∧ (rdG l cl i).2.1 ≤ l.length ∧ ((rdG l cl i).1 = 0 ∨ (rdG l cl i).1 = 1 ∨ i < (rdG l cl i).2.1) := by
  unfold rdG
  split
  · exact ⟨Nat.le_refl _, hi, .inl rfl⟩
  · split
    · split
      · rename_i h
        have := cAt_lt h.2 (by decide)
        exact ⟨by simp only; omega, by simp only; omega, .inr (.inr (by simp only; omega))⟩
      · exact ⟨Nat.le_refl _, hi, .inr (.inl rfl)⟩
    · split
      · rename_i h
        have hlt : i < l.length := by
          rcases Nat.lt_or_ge i l.length with h1 | h1
          · exact h1
          · rw [cAt_end h1] at h; exact absurd h (by decide)
        exact ⟨by simp only; omega, by simp only; omega, .inr (.inr (by simp only; omega))⟩
      · split
        · rename_i h
          have hlt : i < l.length := by
            rcases Nat.lt_or_ge i l.length with h1 | h1
            · exact h1
            · rw [cAt_end h1] at h; exact absurd h (by decide)
          have := nam_le l (i + 1)
          exact ⟨by simp only; omega, by simp only; omega, .inr (.inr (by simp only; omega))⟩
        · split
          · have := num_le l i hi
            exact ⟨this.1, this.2.1, by rcases this.2.2.1 with h | h; exact .inr (.inl h); exact .inr (.inr h)⟩
          · split
            · have := blc_le sv.bS l i hi
              exact ⟨this.1, this.2.1, by rcases this.2.2.1 with h | h; exact .inr (.inl h); exact .inr (.inr h)⟩
            · split
              · have := qtd_le l i hi
                exact ⟨this.1, this.2.1, by rcases this.2.2.1 with h | h; exact .inr (.inl h); exact .inr (.inr h)⟩
              · exact ⟨Nat.le_refl _, hi, .inr (.inl rfl)⟩
/-- the token from i on -/
def tkG (l : List Int) (cl : Bool) (i : Nat) : Tk :=
  ⟨(rdG l cl (ign l false i)).1, (mem.posT l (ign l false i)).1, (mem.posT l (ign l false i)).2, ign l false i, (rdG l cl (ign l false i)).2.1, mem.encS ((l.take (rdG l cl (ign l false i)).2.1).drop (ign l false i)), (rdG l cl (ign l false i)).2.2⟩
set_option maxHeartbeats 2000000 in
theorem nextG_ok (a : Option Addr) (n c : Nat) (cl : Bool) (l : List Int) (i : Nat) (w : World) (h : Row .i32 w a n c l) (hn : n ≤ 1099511627776) (hi : i ≤ n) (hp : ∀ x ∈ l, mem.scP x) (ha : a = none ∨ ∃ b off, a = some ⟨b, off, none⟩) :
    Calls Tryz.prog 16 #[src a n c cl, .int .i64 (i : Int)] w fun e w' => e = .returned (.agg #[.int .i64 (tkG l cl i).k, .int .i64 0, .int .i64 0, .int .i64 (tkG l cl i).fr, .int .i64 (tkG l cl i).to, .string (tkG l cl i).tx, .string (tkG l cl i).va]) ∧ Below w.heap.size w w' := by
  have hl := hide h.len
  have hsb := hide (Sb.new w a n c cl)
  have h1 := hide (fun W (hb : Below w.heap.size w W) => ign_ok a n c cl l i W (h.below hb) hn hi)
  have g1 := (ign_le l false i).2 (by rw [h.len]; exact hi)
  rw [h.len] at g1
  have h2 := hide (fun W (hb : Below w.heap.size w W) => rdG_ok a n c cl l (ign l false i) W (h.below hb) hn g1 hp)
  have g2 := rdG_le l cl (ign l false i) (by rw [h.len]; exact g1)
  rw [h.len] at g2
  obtain ⟨F, hF⟩ : ∃ F, F = ign l false i := ⟨_, rfl⟩
  unfold tkG
  rw [← hF] at h1 h2 g1 g2 ⊢
  obtain ⟨T, hT⟩ : ∃ T, T = (rdG l cl F).2.1 := ⟨_, rfl⟩
  obtain ⟨K, hK⟩ : ∃ K, K = (rdG l cl F).1 := ⟨_, rfl⟩
  obtain ⟨V, hV⟩ : ∃ V, V = (rdG l cl F).2.2 := ⟨_, rfl⟩
  rw [← hT, ← hK, ← hV] at h2 ⊢
  rw [← hT, ← hK] at g2
  clear hT hK hF hV
  have g3 := g2.1
  have g4 := g2.2.1
  clear g2
  unfold src
  go_enter Tryz.func16, Tryz.ntmps16
  go_wp2_with fail
  obtain ⟨w1, hw1⟩ : ∃ w1, w1 = (w.alloc (.cells #[.slice a n c, .bool cl] 79)).alloc (.cells #[Value.int IntKind.i64 0, Value.int IntKind.i64 0, Value.int IntKind.i64 0, Value.int IntKind.i64 0, Value.int IntKind.i64 0, Value.string { data := #[] }, Value.string { data := #[] }] 38) := ⟨_, rfl⟩
  have hs1 : Sb w w1 a n c cl := by rw [hw1]; exact (unhide hsb).below ((Below.refl _ _).alloc (Nat.le_refl _) _)
  have hth : Hid (w1.heap[w.heap.size + 1]? = some (.cells #[Value.int IntKind.i64 0, Value.int IntKind.i64 0, Value.int IntKind.i64 0, Value.int IntKind.i64 0, Value.int IntKind.i64 0, Value.string { data := #[] }, Value.string { data := #[] }] 38 (0, 0))) := hide (by
    rw [hw1]
    have := heap_alloc_new (w.alloc (.cells #[.slice a n c, .bool cl] 79)) (.cells #[Value.int IntKind.i64 0, Value.int IntKind.i64 0, Value.int IntKind.i64 0, Value.int IntKind.i64 0, Value.int IntKind.i64 0, Value.string { data := #[] }, Value.string { data := #[] }] 38)
    simpa using this)
  have hz1 : w.heap.size + 1 < w1.heap.size := by rw [hw1]; simp
  rw [← hw1]
  clear hw1 hsb
  refine ((unhide h1) w1 hs1.bel).mono ?_
  rintro e w2 ⟨rfl, b2⟩
  have hs2 := hs1.below b2
  have d0 := hs2.c0
  have d1 := hs2.c1
  go_wp2_with fail
  refine ((unhide h2) w2 hs2.bel).mono ?_
  rintro e w3 ⟨rfl, b3⟩
  have hs3 := hs2.below b3
  have b13 := b2.trans (b3.mono b2.size)
  clear d0 d1 h1 h2
  have d0 := hs3.c0
  have d1 := hs3.c1
  rcases ha with rfl | ⟨b, off, rfl⟩
  · have hc0 := h.nil rfl
    subst hc0
    have hn0 : n = 0 := by have := h.le; omega
    subst hn0
    obtain rfl : F = 0 := by omega
    obtain rfl : T = 0 := by omega
    have hl0 : l = [] := List.eq_nil_of_length_eq_zero (unhide hl)
    subst hl0
    go_wp2_with fail
    refine (mem.encode_any none 0 0 [] w3 ⟨rfl, Nat.le_refl _, fun _ => rfl, .inl rfl⟩ (by omega)).mono ?_
    rintro e w4 ⟨rfl, b4⟩
    have b14 := b13.trans (b4.mono b13.size)
    have hbx := (b14.block (w.heap.size + 1) hz1).trans (unhide hth)
    have hbel := hs1.bel.trans (b14.mono (Nat.le_trans (Nat.le_add_right _ 1) (Nat.le_of_lt hz1)))
    have hthr : w4.there (w.heap.size + 1) 0 7 := there_cells hbx (by decide)
    have HB := hide hbel
    clear b13 b14 b4 d0 d1 hbx hbel
    obtain ⟨S, hS⟩ : ∃ S, S = mem.encS ([]) := ⟨_, rfl⟩
    rw [← hS]
    have HS := hide hS
    clear hS
    go_wp2_with (first
      | refine wpList_store_mid (by rfl) 38 _ _ (by rfl) (w.heap.size + 1) 0 #[.int .i64 K, .int .i64 0, .int .i64 0, .int .i64 (0), .int .i64 (0), .string S, .string V] (by rfl) (by rfl) hthr infoTk (one_cells (cs := [.int .i64 K, .int .i64 0, .int .i64 0, .int .i64 (0), .int .i64 (0), .string S, .string V]) (by rfl)) ?_)
    refine bodyPost_ret (rgn.result_row rfl _ _ (w.heap.size + 1) 0 [.int .i64 K, .int .i64 0, .int .i64 0, .int .i64 (0), .int .i64 (0), .string S, .string V] _ rfl (World.rangeAt_setCells_same _ _ _ _ hthr) Tryz.underlying38 rfl infoTk) rfl ?_
    exact ⟨by first | rfl | (rw [unhide HS]; simp) | (simp [unhide HS]), below_setCells _ _ _ _ (unhide HB) (Nat.le_add_right _ 1)⟩
  · have hle := h.le
    have k1 : (F : Int) ≤ (T : Int) := by omega
    have k2 : (T : Int) ≤ (c : Int) := by omega
    have hrow := row_part (h.below hs3.bel) g3 g4
    by_cases hFc : F = c
    · subst hFc
      have hrow2 : Row .i32 w3 (some ⟨b, off, none⟩) (T - F) 0 ((l.take T).drop F) := ⟨hrow.len, by omega, (fun e => by cases e), .inl (by omega)⟩
      go_wp2_with fail
      refine (mem.encode_any (some ⟨b, off, none⟩) (T - F) 0 ((l.take T).drop F) w3 hrow2 (by omega)).mono ?_
      rintro e w4 ⟨rfl, b4⟩
      have b14 := b13.trans (b4.mono b13.size)
      have hbx := (b14.block (w.heap.size + 1) hz1).trans (unhide hth)
      have hbel := hs1.bel.trans (b14.mono (Nat.le_trans (Nat.le_add_right _ 1) (Nat.le_of_lt hz1)))
      have hthr : w4.there (w.heap.size + 1) 0 7 := there_cells hbx (by decide)
      have HB := hide hbel
      clear b13 b14 b4 d0 d1 hbx hbel
      obtain ⟨S, hS⟩ : ∃ S, S = mem.encS (((l.take T).drop F)) := ⟨_, rfl⟩
      rw [← hS]
      have HS := hide hS
      clear hS
      go_wp2_with (first
        | refine wpList_store_mid (by rfl) 38 _ _ (by rfl) (w.heap.size + 1) 0 #[.int .i64 K, .int .i64 0, .int .i64 0, .int .i64 (F : Int), .int .i64 (T : Int), .string S, .string V] (by rfl) (by rfl) hthr infoTk (one_cells (cs := [.int .i64 K, .int .i64 0, .int .i64 0, .int .i64 (F : Int), .int .i64 (T : Int), .string S, .string V]) (by rfl)) ?_)
      refine bodyPost_ret (rgn.result_row rfl _ _ (w.heap.size + 1) 0 [.int .i64 K, .int .i64 0, .int .i64 0, .int .i64 (F : Int), .int .i64 (T : Int), .string S, .string V] _ rfl (World.rangeAt_setCells_same _ _ _ _ hthr) Tryz.underlying38 rfl infoTk) rfl ?_
      exact ⟨by first | rfl | (rw [unhide HS]; simp) | (simp [unhide HS]), below_setCells _ _ _ _ (unhide HB) (Nat.le_add_right _ 1)⟩
    · have hFc2 : ¬ (F : Int) = (c : Int) := by omega
      go_wp2_with fail
      refine (mem.encode_any (some ⟨b, off + F, none⟩) (T - F) (c - F) ((l.take T).drop F) w3 hrow (by omega)).mono ?_
      rintro e w4 ⟨rfl, b4⟩
      have b14 := b13.trans (b4.mono b13.size)
      have hbx := (b14.block (w.heap.size + 1) hz1).trans (unhide hth)
      have hbel := hs1.bel.trans (b14.mono (Nat.le_trans (Nat.le_add_right _ 1) (Nat.le_of_lt hz1)))
      have hthr : w4.there (w.heap.size + 1) 0 7 := there_cells hbx (by decide)
      have HB := hide hbel
      clear b13 b14 b4 d0 d1 hbx hbel
      obtain ⟨S, hS⟩ : ∃ S, S = mem.encS (((l.take T).drop F)) := ⟨_, rfl⟩
      rw [← hS]
      have HS := hide hS
      clear hS
      go_wp2_with (first
        | refine wpList_store_mid (by rfl) 38 _ _ (by rfl) (w.heap.size + 1) 0 #[.int .i64 K, .int .i64 0, .int .i64 0, .int .i64 (F : Int), .int .i64 (T : Int), .string S, .string V] (by rfl) (by rfl) hthr infoTk (one_cells (cs := [.int .i64 K, .int .i64 0, .int .i64 0, .int .i64 (F : Int), .int .i64 (T : Int), .string S, .string V]) (by rfl)) ?_)
      refine bodyPost_ret (rgn.result_row rfl _ _ (w.heap.size + 1) 0 [.int .i64 K, .int .i64 0, .int .i64 0, .int .i64 (F : Int), .int .i64 (T : Int), .string S, .string V] _ rfl (World.rangeAt_setCells_same _ _ _ _ hthr) Tryz.underlying38 rfl infoTk) rfl ?_
      exact ⟨by first | rfl | (rw [unhide HS]; simp) | (simp [unhide HS]), below_setCells _ _ _ _ (unhide HB) (Nat.le_add_right _ 1)⟩
end Go.Proofs.YtmhelpocddndjaaGreat.lx
namespace Go.Proofs.YtmhelpocddndjaaGreat.lx
open Go.ChangeShapes Go.WideShapes Go.ChangeAt Go.RowKit
open ints (hide unhide)
open mem (Row)
open cu (Tk)
set_option linter.unusedVariables false
def tksGF (l : List Int) (cl : Bool) : Nat → Nat → List Tk
  | 0, i => []
  | f + 1, i => if (tkG l cl i).k = 0 ∨ (tkG l cl i).k = 1 then [tkG l cl i] else tkG l cl i :: tksGF l cl f (tkG l cl i).to
theorem tkG_le (l : List Int) (cl : Bool) (i : Nat) (hi : i ≤ l.length) : (tkG l cl i).fr ≤ l.length ∧ (tkG l cl i).to ≤ l.length ∧ ((tkG l cl i).k = 0 ∨ (tkG l cl i).k = 1 ∨ i < (tkG l cl i).to) := by
  have h1 := ign_le l false i
  have h2 := rdG_le l cl (ign l false i) (h1.2 hi)
  refine ⟨h1.2 hi, h2.2.1, ?_⟩
  rcases h2.2.2 with h | h | h
  · exact .inl h
  · exact .inr (.inl h)
  · exact .inr (.inr (Nat.lt_of_le_of_lt h1.1 h))
theorem tksGF_more (l : List Int) (cl : Bool) : ∀ (f g i : Nat), l.length < f + i → l.length < g + i → i ≤ l.length → tksGF l cl f i = tksGF l cl g i
  | 0, g, i, hf, _, hi => by omega
  | f + 1, 0, i, _, hg, hi => by omega
  | f + 1, g + 1, i, hf, hg, hi => by
    simp only [tksGF]
    split
    · rfl
    · rename_i h
      have h2 := tkG_le l cl i hi
      have h3 : i < (tkG l cl i).to := by
        rcases h2.2.2 with e | e | e
        · exact absurd (.inl e) h
        · exact absurd (.inr e) h
        · exact e
      rw [tksGF_more l cl f g (tkG l cl i).to (by omega) (by omega) h2.2.1]
/-- all tokens from i on -/
def tksG (l : List Int) (cl : Bool) (i : Nat) : List Tk := tksGF l cl (l.length + 1) i
theorem tksG_end {l : List Int} {cl : Bool} {i : Nat} (h : (tkG l cl i).k = 0 ∨ (tkG l cl i).k = 1) : tksG l cl i = [tkG l cl i] := by
  unfold tksG
  rw [tksGF, if_pos h]
theorem tksG_go {l : List Int} {cl : Bool} {i : Nat} (hi : i ≤ l.length) (h : ¬ ((tkG l cl i).k = 0 ∨ (tkG l cl i).k = 1)) : tksG l cl i = tkG l cl i :: tksG l cl (tkG l cl i).to := by
  have h2 := tkG_le l cl i hi
  have h3 : i < (tkG l cl i).to := by
    rcases h2.2.2 with e | e | e
    · exact absurd (.inl e) h
    · exact absurd (.inr e) h
    · exact e
  unfold tksG
  rw [show tksGF l cl (l.length + 1) i = tkG l cl i :: tksGF l cl l.length (tkG l cl i).to from by rw [tksGF, if_neg h]]
  rw [tksGF_more l cl l.length (l.length + 1) (tkG l cl i).to (by omega) (by omega) h2.2.1]
/-- the last token -/
theorem tokensG_end {n : Nat} {l : List Int} {cl : Bool} {k : Nat} {t : Tk} {pre : List Tk} {w w6 w7 : World} {B : Nat} {sl : Value} (hn : n ≤ 1099511627776) (hend : t.k = 0 ∨ t.k = 1) (hpre : pre ++ tksG l cl k = tksG l cl 0) (ht : t = tkG l cl k)
    (hr : w7.ownsRow B 38 7 sl (pre.length + 1) (pre.flatMap Tk.cells ++ [.int .i64 t.k, .int .i64 t.ln, .int .i64 t.co, .int .i64 t.fr, .int .i64 t.to, .string t.tx, .string t.va])) (hb : Below w.heap.size w w6) (hb7 : Below B w6 w7) (hB : w.heap.size ≤ B) :
    ∃ p cap, Ending.returned sl = .returned (.slice (some ⟨p, 0, none⟩) (tksG l cl 0).length cap) ∧ w.heap.size ≤ p ∧ p < w7.heap.size ∧ (∀ i t, (tksG l cl 0)[i]? = some t → dt.RowAt w7 p (i * 7) t.cells) ∧ Below w.heap.size w w7 := by
  subst ht
  have htk : tksG l cl 0 = pre ++ [tkG l cl k] := by rw [← hpre, tksG_end hend]
  have hcs : pre.flatMap Tk.cells ++ [.int .i64 (tkG l cl k).k, .int .i64 (tkG l cl k).ln, .int .i64 (tkG l cl k).co, .int .i64 (tkG l cl k).fr, .int .i64 (tkG l cl k).to, .string (tkG l cl k).tx, .string (tkG l cl k).va] = (tksG l cl 0).flatMap Tk.cells := by
    rw [htk, List.flatMap_append]
    simp [Tk.cells]
  have hlen : pre.length + 1 = (tksG l cl 0).length := by rw [htk]; simp
  rw [hcs, hlen] at hr
  have hr2 := hr
  have hlt := hr.lt
  obtain ⟨h1, h2⟩ := hr
  rcases h2 with ⟨_, h3⟩ | ⟨g, cap, cur, rfl, hg, hh, hnc, r⟩
  · omega
  · refine ⟨g, cap, rfl, Nat.le_trans hB hg, (hlt g rfl).2, fun i t ht j u hu => ?_, hb.trans (hb7.mono hB)⟩
    have hi : i < (tksG l cl 0).length := (List.getElem?_eq_some_iff.1 ht).1
    have hj : j < 7 := (List.getElem?_eq_some_iff.1 hu).1
    rw [World.ownsRow.cellAt hr2 (i * 7 + j) (by omega)]
    rw [flat7 _ i j t ht hj]
    exact hu
/-- a source's characters, and whether it is clean -/
def chs (z : List Int) : List Int := (mem.decZ z).1
def cln (z : List Int) : Bool := decide ((mem.decZ z).2 = z.length)
/-- a source's tokens -/
def toks (z : List Int) : List Tk := tksG (chs z) (cln z) 0
theorem chs_sc {z : List Int} (hz : mem.Byt z) : ∀ x ∈ chs z, mem.scP x := fun x hx => (mem.scB_iff x).1 (List.all_eq_true.1 (mem.decF_flat _ z hz).2.2.1 x hx)
set_option maxHeartbeats 4000000 in
theorem tokensG_ok (a : Option Addr) (n0 c : Nat) (z : List Int) (w : World) (h : Row .u8 w a n0 c z) (hn0 : n0 ≤ 1099511627776) (hz : mem.Byt z) :
    Calls Tryz.prog 8 #[.slice a n0 c] w fun e w' => ∃ p cap, e = .returned (.slice (some ⟨p, 0, none⟩) (toks z).length cap) ∧ w.heap.size ≤ p ∧ p < w'.heap.size ∧ (∀ i t, (toks z)[i]? = some t → dt.RowAt w' p (i * 7) t.cells) ∧ Below w.heap.size w w' := by
  have hD := hide (mem.decode_bytes a n0 c z w h hz (by omega))
  have hn1 := Nat.le_trans (mem.decZ_len z hz) (mem.decZ_le z hz)
  have hp := chs_sc hz
  unfold toks
  obtain ⟨l, hl⟩ : ∃ l, l = chs z := ⟨_, rfl⟩
  obtain ⟨g0, hg0⟩ : ∃ g0 : Nat, g0 = (mem.decZ z).2 := ⟨_, rfl⟩
  have hcl : cln z = decide (g0 = n0) := by unfold cln; rw [hg0, h.len]
  rw [hcl]
  rw [show (mem.decZ z).1 = l from hl.symm, ← hg0] at hD
  rw [← hl] at hp ⊢
  have hn : l.length ≤ 1099511627776 := by
    rw [hl]
    unfold chs
    rw [h.len] at hn1
    omega
  clear hl hg0 hcl hn1
  obtain ⟨cl, hcl⟩ : ∃ cl, cl = decide (g0 = n0) := ⟨_, rfl⟩
  rw [← hcl]
  have hce : ((g0 : Int) == (n0 : Int)) = cl := by
    rw [hcl, Bool.eq_iff_iff, beq_iff_eq, decide_eq_true_iff]
    omega
  clear hcl
  obtain ⟨n, hne⟩ : ∃ n, n = l.length := ⟨_, rfl⟩
  rw [← hne] at hD hn
  have Hne := hide hne
  clear hne
  go_enter Tryz.func8, Tryz.ntmps8
  go_wp2_with fail
  refine (unhide hD).mono ?_
  rintro e w1 ⟨v, rfl, hown, b1⟩
  obtain ⟨a1, c1, rfl, hrow⟩ := mem.own_row hown
  have ha1 : a1 = none ∨ ∃ b off, a1 = some ⟨b, off, none⟩ := by
    rcases hown.2 with ⟨e, _⟩ | ⟨g, cap, cur, e, _⟩
    · left; simp at e; exact e.1
    · right; simp at e; exact ⟨g, 0, e.1⟩
  clear hD hown
  have hsb := Sb.new w1 a1 n c1 cl
  go_wp2_with fail
  obtain ⟨w2, hw2⟩ : ∃ w2, w2 = w1.alloc (.cells #[.slice a1 n c1, .bool cl] 79) := ⟨_, rfl⟩
  rw [← hw2] at hsb ⊢
  clear hw2
  refine (mem.places_any a1 n c1 l w2 (hrow.below hsb.bel) hn).mono ?_
  rintro e w3 ⟨rfl, hpl, b3⟩
  have hs3 := hsb.below b3
  obtain ⟨pb, hpb⟩ : ∃ pb, pb = w2.heap.size + 1 := ⟨_, rfl⟩
  rw [← hpb] at hpl ⊢
  have hpc := hide (fun k hk => World.ownsRow.cellAt hpl k hk)
  have hplt := (hpl.lt pb rfl).2
  clear hpl
  have hplc := hide (fun f (hf : f < n + 1) => pos_cells l (n + 1) f hf)
  go_wp2_with fail
  rw [← hpb]
  clear hpb
  go_loopg [7, 8] (n + 1) (fun g vs vi wr => ∃ (k : Nat) (pre : List Tk), k ≤ n ∧ n + 1 ≤ g + k ∧ vi = .int .i64 k ∧ Hid (pre ++ tksG l cl k = tksG l cl 0) ∧ Hid (wr.ownsRow w3.heap.size 38 7 vs pre.length (pre.flatMap Tk.cells)) ∧ pre.length ≤ k ∧ Below w3.heap.size w3 wr)
  case atStart => exact ⟨0, [], Nat.zero_le _, by omega, rfl, hide rfl, hide (World.ownsRow_nil _ _ _ _), Nat.zero_le _, Below.refl _ _⟩
  case round =>
    obtain ⟨k, pre, hk, hg, rfl, hpre, hown, hpk, hb⟩ := hrel
    have hsr := hs3.below hb
    have d0 := hsr.c0
    have d1 := hsr.c1
    go_wp2_with fail
    refine (nextG_ok a1 n c1 cl l k wr (hrow.below hsr.bel) hn hk hp ha1).mono ?_
    rintro e w5 ⟨rfl, b5⟩
    have htl := tkG_le l cl k (by rw [hrow.len]; exact hk)
    rw [hrow.len] at htl
    obtain ⟨hfr, hto, hprog⟩ := htl
    have hln := hide (show (tkG l cl k).ln = (mem.posT l (tkG l cl k).fr).1 ∧ (tkG l cl k).co = (mem.posT l (tkG l cl k).fr).2 from ⟨rfl, rfl⟩)
    obtain ⟨t, ht⟩ : ∃ t, t = tkG l cl k := ⟨_, rfl⟩
    rw [← ht] at hfr hto hprog hln ⊢
    have Ht := hide ht
    clear ht d0 d1
    have b35 := hb.trans (b5.mono hb.size)
    have hcs : ∀ o, (w5.alloc o).cell? ⟨pb, t.fr * 2, none⟩ = some (.int .i64 t.ln) ∧ (w5.alloc o).cell? ⟨pb, t.fr * 2 + 1, none⟩ = some (.int .i64 t.co) := fun o => by
      have bA : Below w3.heap.size w3 (w5.alloc o) := b35.alloc b35.size o
      have h1 := (unhide hplc) t.fr (by omega)
      rw [bA.cell (p := ⟨pb, t.fr * 2, none⟩) hplt, bA.cell (p := ⟨pb, t.fr * 2 + 1, none⟩) hplt, (unhide hpc) (t.fr * 2) (by omega), (unhide hpc) (t.fr * 2 + 1) (by omega), (unhide hln).1, (unhide hln).2]
      exact h1
    have k0 := fun o => (hcs o).1
    have k1 := fun o => (hcs o).2
    clear hcs
    obtain ⟨it, zt, q1, q2, q3, q4, q5⟩ := infoTz
    have HQ := hide (And.intro q1 (And.intro q2 (And.intro q3 (And.intro q4 q5))))
    clear q1 q2 q3 q4 q5
    have hown6 := hide (fun o => World.ownsRow.alloc (mem.own_below (unhide hown) b5) o)
    have hbyt := hide (show (pre.length + 1) * 72 ≤ 140737488355328 ∧ pre.length + 1 ≤ maxLen from ⟨by omega, by unfold maxLen; omega⟩)
    have hsz6 := hide (fun o => show w3.heap.size ≤ (w5.alloc o).heap.size from by have := b35.size; simp; omega)
    have hone : Hid (∀ u ∈ [Value.int .i64 t.k, .int .i64 t.ln, .int .i64 t.co, .int .i64 t.fr, .int .i64 t.to, .string t.tx, .string t.va], u.oneCell' = true) := hide (by intro u hu; simp at hu; rcases hu with rfl | rfl | rfl | rfl | rfl | rfl | rfl <;> rfl)
    have HB := hide b35
    have hne := hide (show u7.ownBlock ≠ some w5.heap.size from fun e => by have := ((unhide hown).lt _ e).2; have := b5.size; omega)
    have Hpk := hide hpk
    have Hk := hide hk
    clear b35 hk hpk
    by_cases hk0 : t.k = 0
    · have e0 : (t.k == 0) = true := by simpa using hk0
      have Hend := hide (show t.k = 0 ∨ t.k = 1 from .inl hk0)
      clear hk0
      go_wp2_with (first
        | (at_builtin; refine dt.wp_snoc (by rfl) _ _ (by rfl) Tryz.underlying41 (unhide HQ).1 (unhide HQ).2.1 (unhide HQ).2.2.1 (unhide HQ).2.2.2.1 (unhide HQ).2.2.2.2 (by omega) w3.heap.size pre.length (pre.flatMap Tk.cells) _ (by rfl) ((unhide hown6) _) [.int .i64 t.k, .int .i64 t.ln, .int .i64 t.co, .int .i64 t.fr, .int .i64 t.to, .string t.tx, .string t.va] (by rfl) (unhide hone) (w5.heap.size + 1) (by simp) (by rfl) (unhide hbyt).1 (unhide hbyt).2 ((unhide hsz6) _) ?_; intro sl' w7 hr7 b7 hold7 hat7; have T7 := (hold7 w5.heap.size (by simp) (unhide hne)).trans (heap_alloc_new _ _); have f0 : w7.cell? ⟨w5.heap.size, 0, none⟩ = some (.int .i64 t.k) := (dt.cell_cells T7 0).trans rfl; have f4 : w7.cell? ⟨w5.heap.size, 4, none⟩ = some (.int .i64 t.to) := (dt.cell_cells T7 4).trans rfl; clear T7; have R7 := hide hr7; clear hr7; have B7 := hide b7; clear b7 hold7 hat7))
      go_ret
      exact tokensG_end hn (unhide Hend) (unhide hpre) (unhide Ht) (unhide R7) (b1.trans ((hs3.bel.trans (((unhide HB).alloc (unhide HB).size _).mono (Nat.le_of_lt hs3.lt))).mono b1.size)) (unhide B7) (Nat.le_trans b1.size (Nat.le_of_lt hs3.lt))
    by_cases hk1 : t.k = 1
    · have e0 : (t.k == 0) = false := by simpa using hk0
      have e1 : (t.k == 1) = true := by simpa using hk1
      have Hend := hide (show t.k = 0 ∨ t.k = 1 from .inr hk1)
      clear hk0 hk1
      go_wp2_with (first
        | (at_builtin; refine dt.wp_snoc (by rfl) _ _ (by rfl) Tryz.underlying41 (unhide HQ).1 (unhide HQ).2.1 (unhide HQ).2.2.1 (unhide HQ).2.2.2.1 (unhide HQ).2.2.2.2 (by omega) w3.heap.size pre.length (pre.flatMap Tk.cells) _ (by rfl) ((unhide hown6) _) [.int .i64 t.k, .int .i64 t.ln, .int .i64 t.co, .int .i64 t.fr, .int .i64 t.to, .string t.tx, .string t.va] (by rfl) (unhide hone) (w5.heap.size + 1) (by simp) (by rfl) (unhide hbyt).1 (unhide hbyt).2 ((unhide hsz6) _) ?_; intro sl' w7 hr7 b7 hold7 hat7; have T7 := (hold7 w5.heap.size (by simp) (unhide hne)).trans (heap_alloc_new _ _); have f0 : w7.cell? ⟨w5.heap.size, 0, none⟩ = some (.int .i64 t.k) := (dt.cell_cells T7 0).trans rfl; have f4 : w7.cell? ⟨w5.heap.size, 4, none⟩ = some (.int .i64 t.to) := (dt.cell_cells T7 4).trans rfl; clear T7; have R7 := hide hr7; clear hr7; have B7 := hide b7; clear b7 hold7 hat7))
      go_ret
      exact tokensG_end hn (unhide Hend) (unhide hpre) (unhide Ht) (unhide R7) (b1.trans ((hs3.bel.trans (((unhide HB).alloc (unhide HB).size _).mono (Nat.le_of_lt hs3.lt))).mono b1.size)) (unhide B7) (Nat.le_trans b1.size (Nat.le_of_lt hs3.lt))
    · have e0 : (t.k == 0) = false := by simpa using hk0
      have e1 : (t.k == 1) = false := by simpa using hk1
      have Hend := hide (show ¬ (t.k = 0 ∨ t.k = 1) from fun e => by rcases e with e | e; exact hk0 e; exact hk1 e)
      have hto2 : k < t.to := by
        rcases hprog with e | e | e
        · exact absurd e hk0
        · exact absurd e hk1
        · exact e
      clear hk0 hk1 hprog
      go_wp2_with (first
        | (at_builtin; refine dt.wp_snoc (by rfl) _ _ (by rfl) Tryz.underlying41 (unhide HQ).1 (unhide HQ).2.1 (unhide HQ).2.2.1 (unhide HQ).2.2.2.1 (unhide HQ).2.2.2.2 (by omega) w3.heap.size pre.length (pre.flatMap Tk.cells) _ (by rfl) ((unhide hown6) _) [.int .i64 t.k, .int .i64 t.ln, .int .i64 t.co, .int .i64 t.fr, .int .i64 t.to, .string t.tx, .string t.va] (by rfl) (unhide hone) (w5.heap.size + 1) (by simp) (by rfl) (unhide hbyt).1 (unhide hbyt).2 ((unhide hsz6) _) ?_; intro sl' w7 hr7 b7 hold7 hat7; have T7 := (hold7 w5.heap.size (by simp) (unhide hne)).trans (heap_alloc_new _ _); have f0 : w7.cell? ⟨w5.heap.size, 0, none⟩ = some (.int .i64 t.k) := (dt.cell_cells T7 0).trans rfl; have f4 : w7.cell? ⟨w5.heap.size, 4, none⟩ = some (.int .i64 t.to) := (dt.cell_cells T7 4).trans rfl; clear T7; have R7 := hide hr7; clear hr7; have B7 := hide b7; clear b7 hold7 hat7))
      go_roundg (gk - 1)
      case rel =>
        refine ⟨t.to, pre ++ [t], hto, by omega, rfl, hide ?_, hide ?_, ?_, ?_⟩
        · have e := tksG_go (l := l) (i := k) (by rw [hrow.len]; exact unhide Hk) (by rw [← unhide Ht]; exact unhide Hend)
          rw [← unhide Ht] at e
          rw [← unhide hpre, e]
          simp
        · have := unhide R7
          rw [List.flatMap_append, List.length_append]
          simpa [Tk.cells] using this
        · have := unhide Hpk
          rw [List.length_append]
          show pre.length + 1 ≤ t.to
          omega
        · exact ((unhide HB).alloc (unhide HB).size _).trans (unhide B7)
      case measure => omega
end Go.Proofs.YtmhelpocddndjaaGreat.lx
namespace Go.Proofs.YtmhelpocddndjaaGreat.cu
open Go.ChangeShapes Go.WideShapes Go.ChangeAt Go.RowKit
open ints (hide unhide)
open dt (Dt Kp RowAt)
open mem (Row)
set_option linter.unusedVariables false
set_option linter.unusedSimpArgs false
def newG (z : List Int) (d : Int) : Cu := ⟨lx.toks z, 0, 0, mostS d, 0⟩
theorem tksG_more (l : List Int) (cl : Bool) : ∀ (f i : Nat), i ≤ l.length → l.length < f + i → ∀ j t, (lx.tksGF l cl f i)[j]? = some t → t.k = 0 ∨ t.k = 1 ∨ j + 1 < (lx.tksGF l cl f i).length
  | 0, i, hi, hf, j, t, h => by simp [lx.tksGF] at h
  | f + 1, i, hi, hf, j, t, h => by
    by_cases he : (lx.tkG l cl i).k = 0 ∨ (lx.tkG l cl i).k = 1
    · rw [lx.tksGF, if_pos he] at h
      cases j with
      | zero => simp at h; subst h; rcases he with e | e; exact .inl e; exact .inr (.inl e)
      | succ j => simp at h
    · rw [lx.tksGF, if_neg he] at h ⊢
      have h2 := lx.tkG_le l cl i hi
      have h3 : i < (lx.tkG l cl i).to := by
        rcases h2.2.2 with e | e | e
        · exact absurd (.inl e) he
        · exact absurd (.inr e) he
        · exact e
      cases j with
      | zero =>
        right; right
        cases f with
        | zero => omega
        | succ f =>
          rw [lx.tksGF]
          split <;> simp
      | succ j =>
        have := tksG_more l cl f (lx.tkG l cl i).to h2.2.1 (by omega) j t (by simpa using h)
        simpa using this
theorem tksGF_len (l : List Int) (cl : Bool) : ∀ (f i : Nat), i ≤ l.length → (lx.tksGF l cl f i).length ≤ l.length + 1 - i
  | 0, i, hi => by simp [lx.tksGF]
  | f + 1, i, hi => by
    by_cases he : (lx.tkG l cl i).k = 0 ∨ (lx.tkG l cl i).k = 1
    · rw [lx.tksGF, if_pos he]; simp; omega
    · rw [lx.tksGF, if_neg he]
      have h2 := lx.tkG_le l cl i hi
      have h3 : i < (lx.tkG l cl i).to := by
        rcases h2.2.2 with e | e | e
        · exact absurd (.inl e) he
        · exact absurd (.inr e) he
        · exact e
      have := tksGF_len l cl f (lx.tkG l cl i).to h2.2.1
      simp
      omega
theorem tksG_pos (l : List Int) (cl : Bool) (i : Nat) : 0 < (lx.tksG l cl i).length := by
  unfold lx.tksG
  rw [lx.tksGF]
  split <;> simp
theorem newG_ok' (z : List Int) (d : Int) : (newG z d).Ok :=
  ⟨tksG_pos _ _ 0, tksG_more (lx.chs z) (lx.cln z) ((lx.chs z).length + 1) 0 (Nat.zero_le _) (by omega), Nat.zero_le _, by unfold newG mostS; simp only; omega⟩
theorem toks_len (z : List Int) (hz : mem.Byt z) : (lx.toks z).length ≤ z.length + 1 := by
  have h1 := tksGF_len (lx.chs z) (lx.cln z) ((lx.chs z).length + 1) 0 (Nat.zero_le _)
  have h2 := Nat.le_trans (mem.decZ_len z hz) (mem.decZ_le z hz)
  show (lx.tksGF (lx.chs z) (lx.cln z) ((lx.chs z).length + 1) 0).length ≤ _
  have h3 : (lx.chs z).length ≤ z.length := h2
  omega
theorem newG_ok (a : Option Addr) (n c : Nat) (l : List Int) (d : Int) (w : World) (h : Row .u8 w a n c l) (hn : n ≤ 1099511627776) (hz : mem.Byt l) (hd : (Lit.int .i64 d).wf = true) :
    Calls Tryz.prog 11 #[.slice a n c, .int .i64 d] w fun e w' => ∃ B p, e = .returned (ptr B) ∧ w.heap.size ≤ B ∧ w.heap.size ≤ p ∧ CurAt w' B p (newG l d) ∧ Below w.heap.size w w' := by
  have hT := hide (fun W (bb : Below w.heap.size w W) => lx.tokensG_ok a n c l W (h.below bb) hn hz)
  have hok := hide (newG_ok' l d)
  have hlen := toks_len l hz
  rw [h.len] at hlen
  go_enter Tryz.func11, Tryz.ntmps11
  go_wp2_with fail
  refine ((unhide hT) w (Below.refl _ _)).mono ?_
  rintro e w1 ⟨p, cap, rfl, hp1, hp2, hrows, b1⟩
  have HR := hide hrows
  clear hT hrows
  go_wp2_with fail
  go_ret
  have hmo : (max 0 (min d 200)) = ((mostS d : Nat) : Int) := by unfold mostS; omega
  rw [hmo]
  have bX : ∀ o, Below w1.heap.size w1 (w1.alloc o) := fun o => (Below.refl _ _).alloc (Nat.le_refl _) _
  refine ⟨w1.heap.size, p, rfl, b1.size, hp1, ⟨unhide hok, ?_, cap, heap_alloc_new w1 _, by omega, ?_, fun i t ht => ((unhide HR) i t ht).below (bX _)⟩, b1.alloc b1.size _⟩
  · show (lx.toks l).length ≤ _
    omega
  · simp; omega
end Go.Proofs.YtmhelpocddndjaaGreat.cu
namespace Go.Proofs.YtmhelpocddndjaaGreat.cu
open Go.ChangeShapes Go.WideShapes Go.ChangeAt Go.RowKit
open ints (hide unhide)
open dt (Dt Kp RowAt Ow Grow)
open mem (Row)
set_option linter.unusedVariables false
set_option linter.unusedSimpArgs false
def readLG (l : List Int) (ct : Bool) (d : Int) : Option Dt × Cu :=
  if (litF ct (lx.toks l).length (newG l d)).1.isSome then (if (litF ct (lx.toks l).length (newG l d)).2.finB then (litF ct (lx.toks l).length (newG l d)).1 else none, (litF ct (lx.toks l).length (newG l d)).2.fin) else (none, (litF ct (lx.toks l).length (newG l d)).2)
end Go.Proofs.YtmhelpocddndjaaGreat.cu
namespace Go.Proofs.YtmhelpocddndjaaGreat.lx
open mem (pfx digB digs digAt isAt bWhole bPart bPoint bMark pfxFirst pfxR posT enB prB)
open cu (Tk)
set_option linter.unusedVariables false
set_option linter.unusedSimpArgs false
/-- what stands behind a token makes no difference: l and l' agree up to T, and a line feed stands there in l' -/
structure Loc (l l' : List Int) (T : Nat) : Prop where
  tk : l'.take T = l.take T
  le : T ≤ l.length
  nl : cAt l' T = 10
section
variable {l l' : List Int} {T : Nat} (H : Loc l l' T)
include H
theorem Loc.lt : T < l'.length := cAt_lt H.nl (by decide)
theorem Loc.get {i : Nat} (hi : i < T) : l'[i]? = l[i]? := by
  have h1 : (l'.take T)[i]? = (l.take T)[i]? := by rw [H.tk]
  rwa [List.getElem?_take, List.getElem?_take, if_pos hi, if_pos hi] at h1
theorem Loc.getD {i : Nat} (hi : i < T) : l'.getD i 0 = l.getD i 0 := by
  rw [List.getD_eq_getElem?_getD, List.getD_eq_getElem?_getD, H.get hi]
theorem Loc.at_ {i : Nat} (hi : i < T) : cAt l' i = cAt l i := by
  have := H.lt
  have := H.le
  rw [cAt_in (by omega), cAt_in (by omega), H.getD hi]
theorem ign_loc : ∀ (n : Nat) (b : Bool) (i : Nat), T ≤ i + n → ign l b i < T → ign l' b i = ign l b i
  | 0, b, i, h, h2 => by have := (ign_le l b i).1; omega
  | n + 1, b, i, h, h2 => by
    have hi : i < T := Nat.lt_of_le_of_lt (ign_le l b i).1 h2
    have hc := H.at_ hi
    cases b with
    | false =>
      rw [ign_f l i] at h2 ⊢
      rw [ign_f l' i, hc]
      split
      · rename_i h3; rw [if_pos h3] at h2; exact ign_loc n false (i + 1) (by omega) h2
      · rename_i h3; rw [if_neg h3] at h2
        split
        · rename_i h4; rw [if_pos h4] at h2; exact ign_loc n true (i + 1) (by omega) h2
        · rfl
    | true =>
      rw [ign_t l i] at h2 ⊢
      rw [ign_t l' i, hc]
      split
      · rename_i h3; rw [if_pos h3] at h2; exact ign_loc n false (i + 1) (by omega) h2
      · rename_i h3; rw [if_neg h3] at h2
        split
        · rename_i h4; rw [if_pos h4] at h2; exact ign_loc n true (i + 1) (by omega) h2
        · rfl
theorem nam_loc : ∀ (n : Nat) (i : Nat), T + 1 ≤ i + n → nam l i ≤ T → nam l' i = nam l i
  | 0, i, h, h2 => by have := (nam_le l i).1; omega
  | n + 1, i, h, h2 => by
    have hi : i ≤ T := Nat.le_trans (nam_le l i).1 h2
    by_cases e : i = T
    · subst e
      have h3 : nam l i = i := Nat.le_antisymm h2 (nam_le l i).1
      rw [h3, nam_eq l' i, H.nl]
      rfl
    · have hc := H.at_ (i := i) (by omega)
      rw [nam_eq l i] at h2 ⊢
      rw [nam_eq l' i, hc]
      split
      · rename_i h3; rw [if_pos h3] at h2; exact nam_loc n (i + 1) (by omega) h2
      · rfl
omit H in
theorem digAt_c (l : List Int) (p : Nat) : digAt l p = digB (cAt l p) := by
  unfold digAt cAt
  by_cases h : p < l.length
  · simp [h]
  · simp [h, digB]
omit H in
theorem isAt_c (l : List Int) (p : Nat) (c : Int) (hc : c ≠ -1) : isAt l p c = decide (cAt l p = c) := by
  unfold isAt cAt
  by_cases h : p < l.length
  · simp [h, BEq.beq]
  · simp [h]; exact fun e => hc e.symm
omit H in
theorem digs_eq (l : List Int) (p : Nat) : digs l p = if digAt l p then digs l (p + 1) else p := by
  cases h : digAt l p
  · rw [mem.digs_no h]; rfl
  · rw [mem.digs_yes h]; rfl
theorem digs_loc : ∀ (n : Nat) (i : Nat), T + 1 ≤ i + n → digs l i ≤ T → digs l' i = digs l i
  | 0, i, h, h2 => by have := (mem.digs_le l i).1; omega
  | n + 1, i, h, h2 => by
    have hi : i ≤ T := Nat.le_trans (mem.digs_le l i).1 h2
    by_cases e : i = T
    · subst e
      have h3 : digs l i = i := Nat.le_antisymm h2 (mem.digs_le l i).1
      rw [h3, digs_eq l' i, digAt_c, H.nl]
      rfl
    · have hc := H.at_ (i := i) (by omega)
      rw [digs_eq l i] at h2 ⊢
      rw [digs_eq l' i, digAt_c, digAt_c, hc]
      rw [digAt_c] at h2
      split
      · rename_i h3; rw [if_pos h3] at h2; exact digs_loc n (i + 1) (by omega) h2
      · rfl
theorem pfxR_loc {e : Nat} (he : (pfxR l e).1 ≤ T) (h46 : cAt l (pfxR l e).1 ≠ 46) (hnr : nrB (cAt l (pfxR l e).1) = false) : pfxR l' e = pfxR l e := by
  have hge : ∀ g, g ≤ (bPart l g (bMark l g)).1 := fun g => bPart_ge l g _ (by unfold bMark; split; omega; split <;> omega)
  have hpp : e ≤ bPoint l e := by unfold bPoint; split <;> omega
  have hb := bPart_ge l e (bPoint l e) hpp
  have hR : (bPart l e (bPoint l e)).1 ≤ (pfxR l e).1 := by
    unfold pfxR
    split
    · exact hge _
    · exact Nat.le_refl _
  have heT : e ≤ T := by omega
  have h46b : ∀ p, isAt l p 46 = decide (cAt l p = 46) := fun p => isAt_c l p 46 (by decide)
  have h46c : ∀ p, isAt l' p 46 = decide (cAt l' p = 46) := fun p => isAt_c l' p 46 (by decide)
  -- the point
  have hpt : bPoint l' e = bPoint l e := by
    unfold bPoint
    rw [h46b, h46c]
    by_cases h1 : e < T
    · rw [H.at_ h1]
    · have h2 : e = T := by omega
      have h3 : (pfxR l e).1 = e := by omega
      rw [h3] at h46
      rw [h2, H.nl, ← h2]
      simp [h46]
  -- the fraction
  have hfr : bPart l' e (bPoint l e) = bPart l e (bPoint l e) ∧ (bPart l e (bPoint l e)).1 = (bPart l e (bPoint l e)).2 := by
    by_cases h1 : bPoint l e = e
    · unfold bPart
      rw [if_pos h1, if_pos h1]
      exact ⟨rfl, rfl⟩
    · by_cases h2 : digs l (bPoint l e) = bPoint l e
      · exfalso
        have h3 : bPart l e (bPoint l e) = (e, digs l (bPoint l e)) := by unfold bPart; rw [if_neg h1, if_pos h2]
        have h4 : pfxR l e = (e, digs l (bPoint l e)) := by
          unfold pfxR
          rw [h3]
          simp only
          rw [if_neg (by rw [h2]; exact fun e' => h1 e'.symm)]
        rw [h4] at h46
        apply h46
        unfold bPoint at h1
        cases h5 : isAt l e 46
        · rw [h5] at h1; exact absurd rfl h1
        · rw [h46b] at h5; simpa using h5
      · have h3 : bPart l e (bPoint l e) = (digs l (bPoint l e), digs l (bPoint l e)) := by unfold bPart; rw [if_neg h1, if_neg h2]
        rw [h3] at hR
        have h4 := digs_loc H (T + 1) (bPoint l e) (by omega) (by simp only at hR; omega)
        refine ⟨?_, by rw [h3]⟩
        rw [h3]
        unfold bPart
        rw [if_neg h1, h4, if_neg h2]
  obtain ⟨g, hg⟩ : ∃ g, g = (bPart l e (bPoint l e)).1 := ⟨_, rfl⟩
  have hRe : pfxR l e = bPart l g (bMark l g) := by unfold pfxR; rw [if_pos hfr.2, ← hg]
  have hRe' : pfxR l' e = bPart l' g (bMark l' g) := by unfold pfxR; rw [hpt, hfr.1, if_pos hfr.2, ← hg]
  rw [← hg] at hR
  have he1 : ∀ p, isAt l p 101 = decide (cAt l p = 101) := fun p => isAt_c l p 101 (by decide)
  have he2 : ∀ p, isAt l p 69 = decide (cAt l p = 69) := fun p => isAt_c l p 69 (by decide)
  have he1' : ∀ p, isAt l' p 101 = decide (cAt l' p = 101) := fun p => isAt_c l' p 101 (by decide)
  have he2' : ∀ p, isAt l' p 69 = decide (cAt l' p = 69) := fun p => isAt_c l' p 69 (by decide)
  rw [hRe', hRe]
  by_cases hm : isAt l g 101 = false ∧ isAt l g 69 = false
  · have hm' : isAt l' g 101 = false ∧ isAt l' g 69 = false := by
      by_cases h1 : g < T
      · rw [he1', he2', H.at_ h1, ← he1, ← he2]; exact hm
      · have h2 : g = T := by omega
        rw [he1', he2', h2, H.nl]
        decide
    have e1 : bMark l g = g := by unfold bMark; rw [if_pos hm]
    have e2 : bMark l' g = g := by unfold bMark; rw [if_pos hm']
    rw [e1, e2]
    unfold bPart
    rw [if_pos rfl, if_pos rfl]
  · have hc : cAt l g = 101 ∨ cAt l g = 69 := by
      rw [he1, he2] at hm
      simp only [decide_eq_false_iff_not] at hm
      by_cases h : cAt l g = 101
      · exact .inl h
      · exact .inr (Classical.not_not.1 (fun h' => hm ⟨h, h'⟩))
    have hgn : nrB (cAt l g) = true := by rcases hc with h | h <;> rw [h] <;> decide
    have hne : g ≠ (pfxR l e).1 := fun e' => by rw [← e', hgn] at hnr; cases hnr
    have hgT : g < T := by omega
    have hk : bMark l g = g + 1 ∨ bMark l g = g + 2 := by unfold bMark; rw [if_neg hm]; split; exact .inr rfl; exact .inl rfl
    have hkg : bMark l g ≠ g := by omega
    by_cases hd : digs l (bMark l g) = bMark l g
    · exfalso
      have : bPart l g (bMark l g) = (g, digs l (bMark l g)) := by unfold bPart; rw [if_neg hkg, if_pos hd]
      rw [hRe, this] at hne
      exact hne rfl
    · have h3 : bPart l g (bMark l g) = (digs l (bMark l g), digs l (bMark l g)) := by unfold bPart; rw [if_neg hkg, if_neg hd]
      rw [hRe, h3] at he
      simp only at he
      have h5 := (mem.digs_le l (bMark l g)).1
      have hg1 : g + 1 < T := by omega
      have hs1 : ∀ c : Int, c ≠ -1 → isAt l' (g + 1) c = isAt l (g + 1) c := fun c hc => by rw [isAt_c _ _ _ hc, isAt_c _ _ _ hc, H.at_ hg1]
      have hmk : bMark l' g = bMark l g := by
        unfold bMark
        rw [he1', he2', H.at_ hgT, ← he1, ← he2, hs1 43 (by decide), hs1 45 (by decide)]
      have h4 := digs_loc H (T + 1) (bMark l g) (by omega) he
      rw [hmk, h3]
      unfold bPart
      rw [if_neg hkg, h4, if_neg hd]
theorem pfx_loc {p : Nat} (hf : (pfx l p).2.2 ≠ 0) (ht : (pfx l p).1 ≤ T) (h46 : cAt l (pfx l p).1 ≠ 46) (hnr : nrB (cAt l (pfx l p).1) = false) : pfx l' p = pfx l p := by
  have hw : ¬ bWhole l (pfxFirst l p) = pfxFirst l p := fun e => hf (by unfold pfx; rw [if_pos e])
  have hpx : pfx l p = ((pfxR l (bWhole l (pfxFirst l p))).1, (pfxR l (bWhole l (pfxFirst l p))).2, if (pfxR l (bWhole l (pfxFirst l p))).1 > bWhole l (pfxFirst l p) then 2 else 1) := by unfold pfx; rw [if_neg hw]
  rw [hpx] at ht h46 hnr
  simp only at ht h46 hnr
  have hge : ∀ g, g ≤ (bPart l g (bMark l g)).1 := fun g => bPart_ge l g _ (by unfold bMark; split; omega; split <;> omega)
  have hR : bWhole l (pfxFirst l p) ≤ (pfxR l (bWhole l (pfxFirst l p))).1 := by
    have hpp : ∀ e, e ≤ bPoint l e := fun e => by unfold bPoint; split <;> omega
    have hb := fun e => bPart_ge l e (bPoint l e) (hpp e)
    unfold pfxR
    split
    · exact Nat.le_trans (hb _) (hge _)
    · exact hb _
  have hwl : pfxFirst l p ≤ bWhole l (pfxFirst l p) := by
    unfold bWhole
    split
    · omega
    · exact (mem.digs_le l _).1
  have hfp : p ≤ pfxFirst l p := by unfold pfxFirst; split <;> omega
  have hpT : p < T := by omega
  have hfT : pfxFirst l p < T := by omega
  have hfi : pfxFirst l' p = pfxFirst l p := by unfold pfxFirst; rw [isAt_c _ _ _ (by decide), isAt_c _ _ _ (by decide), H.at_ hpT]
  have hwe : bWhole l' (pfxFirst l p) = bWhole l (pfxFirst l p) := by
    unfold bWhole
    rw [isAt_c _ _ _ (by decide), isAt_c _ _ _ (by decide), H.at_ hfT]
    split
    · rfl
    · rename_i h0
      refine digs_loc H (T + 1) _ (by omega) ?_
      have : bWhole l (pfxFirst l p) = digs l (pfxFirst l p) := by unfold bWhole; rw [isAt_c _ _ _ (by decide), if_neg h0]
      omega
  have hre := pfxR_loc H ht h46 hnr
  rw [hpx]
  unfold pfx
  rw [hfi, hwe, if_neg hw, hre]
theorem num_loc {i : Nat} (hk : (num l i).1 ≠ 1) (ht : (num l i).2 ≤ T) : num l' i = num l i := by
  have hc : ¬ (cAt l (pfx l i).1 = 46 ∨ nrB (cAt l (pfx l i).1) = true) := fun e => hk (by unfold num; rw [if_pos e])
  have h46 : cAt l (pfx l i).1 ≠ 46 := fun e => hc (.inl e)
  have hnr : nrB (cAt l (pfx l i).1) = false := by
    cases h : nrB (cAt l (pfx l i).1)
    · rfl
    · exact absurd (.inr h) hc
  have hf : (pfx l i).2.2 = 1 ∨ (pfx l i).2.2 = 2 := by
    by_cases h1 : (pfx l i).2.2 = 1
    · exact .inl h1
    · by_cases h2 : (pfx l i).2.2 = 2
      · exact .inr h2
      · exact absurd (by unfold num; rw [if_neg hc, if_neg h1, if_neg h2]) hk
  have ht2 : (pfx l i).1 ≤ T := by
    unfold num at ht
    rw [if_neg hc] at ht
    rcases hf with h | h
    · rw [if_pos h] at ht; exact ht
    · rw [if_neg (by rw [h]; decide), if_pos h] at ht; exact ht
  have he := pfx_loc H (by rcases hf with h | h <;> rw [h] <;> decide) ht2 h46 hnr
  have hc' : ¬ (cAt l' (pfx l i).1 = 46 ∨ nrB (cAt l' (pfx l i).1) = true) := by
    by_cases h1 : (pfx l i).1 < T
    · rw [H.at_ h1]; exact hc
    · have h2 : (pfx l i).1 = T := by omega
      rw [h2, H.nl]
      decide
  unfold num
  rw [he, if_neg hc, if_neg hc']
theorem insZ_loc {p i : Nat} (hi : i ≤ T) : insZ l' p i = insZ l p i := by
  unfold insZ
  have e : ∀ m : List Int, (m.drop p).take (i - p) = ((m.take T).drop p).take (i - p) := fun m => by
    rw [List.drop_take, List.take_take, Nat.min_eq_left (by omega)]
  rw [e l', e l, H.tk]
theorem tq_loc {i : Nat} (hi : i + 2 < T) : tq l' i = tq l i := by
  unfold tq
  rw [H.at_ (by omega), H.at_ (by omega), H.at_ hi]
theorem endB_loc : ∀ (k j i : Nat), endB l k j = some i → i + 3 ≤ T → ∀ k', i < j + k' → endB l' k' j = some i
  | 0, j, i, h, _, _, _ => by cases h
  | k + 1, j, i, h, hT, k', hk' => by
    have hle := endB_le l _ _ _ h
    cases k' with
    | zero => omega
    | succ k' =>
      unfold endB at h ⊢
      rw [tq_loc H (by omega)]
      split at h
      · rename_i ht; rw [if_pos ht]; exact h
      rename_i ht; rw [if_neg ht]
      have hji : j < i := by
        rcases Nat.lt_or_ge j i with h1 | h1
        · exact h1
        · exfalso
          have : j = i := by omega
          rw [this] at ht
          exact ht hle.2
      rw [H.at_ (by omega), tq_loc H (by omega)]
      split at h
      · rename_i h2; rw [if_pos h2]; exact endB_loc k _ i h hT k' (by omega)
      rename_i h2; rw [if_neg h2]
      split at h
      · cases h
      · rename_i h3; rw [if_neg h3]; exact endB_loc k _ i h hT k' (by omega)
theorem endQ_loc : ∀ (k j i : Nat), endQ l k j = some i → i + 1 ≤ T → ∀ k', i < j + k' → endQ l' k' j = some i
  | 0, j, i, h, _, _, _ => by cases h
  | k + 1, j, i, h, hT, k', hk' => by
    have hle := endQ_le l _ _ _ h
    cases k' with
    | zero => omega
    | succ k' =>
      unfold endQ at h ⊢
      rw [H.at_ (by omega)]
      split at h
      · rename_i ht; rw [if_pos ht]; exact h
      rename_i ht; rw [if_neg ht]
      have hji : j < i := by
        rcases Nat.lt_or_ge j i with h1 | h1
        · exact h1
        · exfalso
          have : j = i := by omega
          rw [this] at ht
          exact ht hle.2
      rw [H.at_ (i := j + 1) (by omega)]
      split at h
      · rename_i h2
        rw [if_pos h2]
        split at h
        · cases h
        · rename_i h3; rw [if_neg h3]; exact endQ_loc k _ i h hT k' (by omega)
      rename_i h2; rw [if_neg h2]
      split at h
      · cases h
      · rename_i h3; rw [if_neg h3]; exact endQ_loc k _ i h hT k' (by omega)
theorem rdG_loc {cl cl' : Bool} {F : Nat} (hF : F ≤ l.length) (h0 : (rdG l cl F).1 ≠ 0) (h1 : (rdG l cl F).1 ≠ 1) (ht : (rdG l cl F).2.1 ≤ T) : rdG l' cl' F = rdG l cl F := by
  have hle := rdG_le l cl F hF
  have hFT : F < T := by rcases hle.2.2 with h | h | h; exact absurd h h0; exact absurd h h1; omega
  have hc := H.at_ hFT
  have hlt := H.lt
  have hn0 : ¬ (F = l.length ∧ cl = true) := fun e => h0 (by unfold rdG; rw [if_pos e])
  have hn0' : ¬ (F = l'.length ∧ cl' = true) := fun e => by omega
  unfold rdG at h0 h1 ht ⊢
  rw [if_neg hn0] at h0 h1 ht ⊢
  rw [if_neg hn0', hc]
  split
  · rename_i h46
    rw [if_pos h46] at h0 h1 ht
    by_cases hd : cAt l (F + 1) = 46 ∧ cAt l (F + 2) = 46
    · rw [if_pos hd] at ht
      simp only at ht
      rw [if_pos hd, H.at_ (by omega), H.at_ (by omega), if_pos hd]
    · rw [if_neg hd] at h1; exact absurd rfl h1
  rename_i h46
  rw [if_neg h46] at h0 h1 ht
  split
  · rfl
  rename_i hpu
  rw [if_neg hpu] at h0 h1 ht
  split
  · rename_i hns
    rw [if_pos hns] at ht
    simp only at ht
    rw [nam_loc H (T + 1) (F + 1) (by omega) ht]
  rename_i hns
  rw [if_neg hns] at h0 h1 ht
  split
  · rename_i hnu
    rw [if_pos hnu] at h1 ht
    simp only at h1 ht
    rw [num_loc H h1 ht]
  rename_i hnu
  rw [if_neg hnu] at h0 h1 ht
  by_cases htq : tq l F = true
  · rw [if_pos htq] at h1 ht
    have h3 := tq_len l F htq
    have key : ∃ i, endB l (l.length + 2) (F + 3) = some i := by
      unfold blc at h1
      cases e : endB l (l.length + 2) (F + 3) with
      | none => rw [e] at h1; exact absurd rfl h1
      | some i => exact ⟨i, rfl⟩
    obtain ⟨i, hi⟩ := key
    have hib := endB_le l _ _ _ hi
    have hto : (blc sv.bS l F).2.1 = i + 3 := by unfold blc; rw [hi]; rfl
    rw [hto] at ht
    have htq' : tq l' F = true := by rw [tq_loc H (by omega)]; exact htq
    rw [if_pos htq', if_pos htq]
    have he := endB_loc H _ _ _ hi ht (l'.length + 2) (by omega)
    unfold blc
    rw [he, hi]
    simp only [blcR]
    rw [insZ_loc H (by omega)]
  · rw [if_neg htq] at h0 h1 ht
    by_cases h34 : cAt l F = 34
    · rw [if_pos h34] at h1 ht
      have key : ∃ i r, endQ l (l.length + 2) (F + 1) = some i ∧ quo (insZ l (F + 1) i) = some r := by
        unfold qtd at h1
        cases e : endQ l (l.length + 2) (F + 1) with
        | none => rw [e] at h1; exact absurd rfl h1
        | some i =>
          rw [e] at h1
          simp only [qtdR] at h1
          cases e2 : quo (insZ l (F + 1) i) with
          | none => rw [e2] at h1; exact absurd rfl h1
          | some r => exact ⟨i, r, rfl, e2⟩
      obtain ⟨i, r, hi, hr⟩ := key
      have hib := endQ_le l _ _ _ hi
      have hto : (qtd l F).2.1 = i + 1 := by unfold qtd; rw [hi]; simp only [qtdR, hr]
      rw [hto] at ht
      have htq' : ¬ tq l' F = true := by
        intro e
        unfold tq at e htq
        have e := of_decide_eq_true e
        have h1' : cAt l (F + 1) = 34 := by rw [← H.at_ (by omega)]; exact e.2.1
        have hiF : i = F + 1 := by
          unfold endQ at hi
          rw [if_pos h1'] at hi
          exact (Option.some.inj hi).symm
        have h2' : cAt l' (F + 2) = 34 := e.2.2
        by_cases hT2 : F + 2 < T
        · rw [H.at_ hT2] at h2'
          exact htq (by simp [h34, h1', h2'])
        · have : F + 2 = T := by omega
          rw [this, H.nl] at h2'
          exact absurd h2' (by decide)
      rw [if_neg htq', if_neg htq, if_pos h34, if_pos h34]
      have he := endQ_loc H _ _ _ hi ht (l'.length + 2) (by omega)
      unfold qtd
      rw [he, hi]
      simp only [qtdR]
      rw [insZ_loc H (by omega)]
    · rw [if_neg h34] at h1; exact absurd rfl h1
theorem posT_loc : ∀ (k : Nat), k < T → posT l' k = posT l k
  | 0, _ => rfl
  | k + 1, hk => by
    have ih := posT_loc k (by omega)
    have h1 := H.lt
    have h2 := H.le
    have he : enB l' k = enB l k := by
      unfold enB prB
      rw [H.getD (by omega), H.getD (by omega)]
      simp [show k + 1 < l.length by omega, show k + 1 < l'.length by omega]
    simp only [posT, he, ih]
theorem tkG_loc {cl cl' : Bool} {i : Nat} (hi : i ≤ l.length) (h0 : (tkG l cl i).k ≠ 0) (h1 : (tkG l cl i).k ≠ 1) (ht : (tkG l cl i).to ≤ T) : tkG l' cl' i = tkG l cl i := by
  have hF := (ign_le l false i).2 hi
  have hle := rdG_le l cl (ign l false i) hF
  have hFT : ign l false i < T := by
    rcases hle.2.2 with h | h | h
    · exact absurd h h0
    · exact absurd h h1
    · exact Nat.lt_of_lt_of_le h ht
  have hg := ign_loc H T false i (by omega) hFT
  have hr := rdG_loc H (cl' := cl') hF h0 h1 ht
  unfold tkG
  rw [hg, hr, posT_loc H _ hFT]
  congr 1
  have e : ∀ m : List Int, m.take (rdG l cl (ign l false i)).2.1 = (m.take T).take (rdG l cl (ign l false i)).2.1 := fun m => by
    rw [List.take_take, Nat.min_eq_left (show (rdG l cl (ign l false i)).2.1 ≤ T from ht)]
  rw [e l', e l, H.tk]
/-- the tokens up to the one that ends at T or ahead of it -/
theorem tks_loc {cl cl' : Bool} : ∀ (m i : Nat) (t : Tk), i ≤ l.length → i ≤ T → (tksG l cl i)[m]? = some t → t.k ≠ 0 → t.k ≠ 1 → t.to ≤ T → (∀ q, q ≤ m → (tksG l' cl' i)[q]? = (tksG l cl i)[q]?) ∧ i < t.to
  | m, i, t, hi, hiT, hm, h0, h1, ht => by
    have hlt := H.lt
    have hle := tkG_le l cl i hi
    by_cases he : (tkG l cl i).k = 0 ∨ (tkG l cl i).k = 1
    · exfalso
      rw [tksG_end he] at hm
      cases m with
      | zero => simp at hm; subst hm; rcases he with e | e; exact h0 e; exact h1 e
      | succ m => simp at hm
    · have e0 : (tkG l cl i).k ≠ 0 := fun e => he (.inl e)
      have e1 : (tkG l cl i).k ≠ 1 := fun e => he (.inr e)
      have hgo := tksG_go hi he
      have hit : i < (tkG l cl i).to := by rcases hle.2.2 with h | h | h; exact absurd h e0; exact absurd h e1; exact h
      cases m with
      | zero =>
        rw [hgo] at hm
        simp at hm
        subst hm
        have hk := tkG_loc H (cl' := cl') hi e0 e1 ht
        refine ⟨fun q hq => ?_, hit⟩
        obtain rfl : q = 0 := by omega
        rw [hgo, tksG_go (l := l') (cl := cl') (by omega) (by rw [hk]; exact he), hk]
        rfl
      | succ m =>
        rw [hgo] at hm
        simp at hm
        have hrec := fun hT2 => tks_loc (cl := cl) (cl' := cl') m (tkG l cl i).to t hle.2.1 hT2 hm h0 h1 ht
        have htoT : (tkG l cl i).to ≤ T := by
          -- a later token ends further on
          have key : ∀ (m i : Nat) (t : Tk), i ≤ l.length → (tksG l cl i)[m]? = some t → t.k ≠ 0 → t.k ≠ 1 → i < t.to := by
            intro m
            induction m with
            | zero =>
              intro i t hi hm h0 h1
              have hle := tkG_le l cl i hi
              have h00 : (tksG l cl i)[0]? = some (tkG l cl i) := by
                by_cases he : (tkG l cl i).k = 0 ∨ (tkG l cl i).k = 1
                · rw [tksG_end he]; rfl
                · rw [tksG_go hi he]; rfl
              rw [h00] at hm
              obtain rfl := Option.some.inj hm
              rcases hle.2.2 with h | h | h
              · exact absurd h h0
              · exact absurd h h1
              · exact h
            | succ m ih =>
              intro i t hi hm h0 h1
              have hle := tkG_le l cl i hi
              by_cases he : (tkG l cl i).k = 0 ∨ (tkG l cl i).k = 1
              · rw [tksG_end he] at hm; simp at hm
              · rw [tksG_go hi he] at hm
                have := ih _ t hle.2.1 (by simpa using hm) h0 h1
                rcases hle.2.2 with h | h | h
                · exact absurd (.inl h) he
                · exact absurd (.inr h) he
                · omega
          have := key m (tkG l cl i).to t hle.2.1 hm h0 h1
          omega
        obtain ⟨hr1, hr2⟩ := hrec htoT
        have hk := tkG_loc H (cl' := cl') hi e0 e1 htoT
        refine ⟨fun q hq => ?_, by omega⟩
        rw [hgo, tksG_go (l := l') (cl := cl') (by omega) (by rw [hk]; exact he), hk]
        cases q with
        | zero => rfl
        | succ q =>
          simp only [List.getElem?_cons_succ]
          exact hr1 q (by omega)
end
end Go.Proofs.YtmhelpocddndjaaGreat.lx
namespace Go.Proofs.YtmhelpocddndjaaGreat.cu
open dt (Dt)
open mem (decF decZ putB scB Byt posT enB)
open lx (toks chs cln tksG tkG)
set_option linter.unusedVariables false
set_option linter.unusedSimpArgs false
theorem decF_app : ∀ (zs : List Int) (f : Nat) (r : List Int), zs.all scB = true → decF (zs.length + f) (zs.flatMap putB ++ r) = (zs ++ (decF f r).1, (zs.flatMap putB).length + (decF f r).2)
  | [], f, r, _ => by simp
  | c :: zs, f, r, h => by
    rw [List.all_cons, Bool.and_eq_true] at h
    have hc := (mem.scB_iff c).1 h.1
    have ho := mem.one_put c hc (zs.flatMap putB ++ r)
    have hn : 0 < (putB c).length := by unfold putB; split <;> (try split) <;> (try split) <;> simp
    rw [List.flatMap_cons, List.append_assoc, List.length_cons, show zs.length + 1 + f = (zs.length + f) + 1 by omega, mem.decF_go _ _ (by rw [ho]; simp only; omega), ho]
    simp only
    rw [show (putB c ++ (zs.flatMap putB ++ r)).drop (putB c).length = zs.flatMap putB ++ r by simp, decF_app zs f r h.2]
    simp
    omega
theorem decF_fuel : ∀ (f g : Nat) (l : List Int), l.length ≤ f → l.length ≤ g → decF f l = decF g l
  | 0, g, l, hf, hg => by
    have : l = [] := List.eq_nil_of_length_eq_zero (by omega)
    subst this
    rw [mem.decF_end _ _ (by decide), mem.decF_end _ _ (by decide)]
  | f + 1, 0, l, hf, hg => by
    have : l = [] := List.eq_nil_of_length_eq_zero (by omega)
    subst this
    rw [mem.decF_end _ _ (by decide), mem.decF_end _ _ (by decide)]
  | f + 1, g + 1, l, hf, hg => by
    by_cases h : (mem.oneL l).2 = 0
    · rw [mem.decF_end _ _ h, mem.decF_end _ _ h]
    · have := mem.oneL_le l
      rw [mem.decF_go _ _ h, mem.decF_go _ _ h, decF_fuel f g _ (by simp; omega) (by simp; omega)]
/-- a source's beginning, a line feed, and anything behind -/
def behind (l : List Int) (T : Nat) (tl : List Int) : List Int := (l.take T).flatMap putB ++ 10 :: tl
theorem chs_behind {l : List Int} (hl : ∀ x ∈ l, mem.scP x) (T : Nat) (tl : List Int) : chs (behind l T tl) = l.take T ++ 10 :: (decZ tl).1 := by
  have h1 : (l.take T ++ [10]).all scB = true := by
    rw [List.all_eq_true]
    intro x hx
    rw [mem.scB_iff]
    rcases List.mem_append.1 hx with h | h
    · exact hl x (List.mem_of_mem_take h)
    · simp at h; subst h; unfold mem.scP; omega
  have hp : putB 10 = [10] := mem.putB_1 (by omega)
  have e : behind l T tl = (l.take T ++ [10]).flatMap putB ++ tl := by
    unfold behind
    rw [List.flatMap_append]
    simp [hp]
  unfold chs decZ
  have hlen : (l.take T ++ [10]).length ≤ ((l.take T ++ [10]).flatMap putB).length := mem.flat_ge _
  rw [e, decF_fuel _ ((l.take T ++ [10]).length + ((l.take T ++ [10]).flatMap putB ++ tl).length) _ (Nat.le_refl _) (by omega), decF_app _ _ _ h1]
  simp only
  rw [decF_fuel _ tl.length tl (by rw [List.length_append]; omega) (Nat.le_refl _)]
  simp
theorem loc_behind {l : List Int} (hl : ∀ x ∈ l, mem.scP x) {T : Nat} (hT : T ≤ l.length) (tl : List Int) : lx.Loc l (chs (behind l T tl)) T := by
  rw [chs_behind hl]
  have h1 : (l.take T).length = T := by simp; omega
  refine ⟨?_, hT, ?_⟩
  · rw [List.take_append_of_le_length (by omega), List.take_of_length_le (by omega)]
  · rw [lx.cAt_in (by simp; omega), List.getD_eq_getElem?_getD, List.getElem?_append_right (by omega), h1, Nat.sub_self]
    rfl
theorem fin_ix (c : Cu) : c.fin.ix = c.ix ∧ c.fin.ts = c.ts := by
  unfold Cu.fin Cu.stop
  split
  · exact ⟨rfl, rfl⟩
  · split <;> exact ⟨rfl, rfl⟩
theorem readLG_ix (z : List Int) (ct : Bool) (d : Int) : (readLG z ct d).2.ix = (litF ct (toks z).length (newG z d)).2.ix ∧ Stp (newG z d) (readLG z ct d).2 ∧ Kd (readLG z ct d).2 := by
  have hg := (litF_goes ct (toks z).length (newG z d) (newG_ok' z d)).1
  have hk := litF_kd ct (toks z).length (newG z d) (.inl rfl)
  unfold readLG
  split
  · exact ⟨(fin_ix _).1, hg.trans (fin_stp hg.ok), fin_kd hk⟩
  · exact ⟨rfl, hg, hk⟩
/-- the fault stays -/
theorem stays (z : List Int) (hz : Byt z) (tl : List Int) (ct : Bool) (d : Int) (h0 : (readLG z ct d).2.tok.k ≠ 0) (h1 : (readLG z ct d).2.tok.k ≠ 1) :
    (readLG (behind (chs z) (readLG z ct d).2.tok.to tl) ct d).2.kd = (readLG z ct d).2.kd ∧ (readLG (behind (chs z) (readLG z ct d).2.tok.to tl) ct d).2.tok = (readLG z ct d).2.tok := by
  obtain ⟨hix, hst, _⟩ := readLG_ix z ct d
  obtain ⟨t, ht⟩ : ∃ t, t = (readLG z ct d).2.tok := ⟨_, rfl⟩
  obtain ⟨m, hm⟩ : ∃ m, m = (readLG z ct d).2.ix := ⟨_, rfl⟩
  have hget : (toks z)[m]? = some t := by
    have := (readLG z ct d).2.get hst.ok.lt
    rw [hst.ts, ← hm, ← ht] at this
    exact this
  rw [← ht] at h0 h1
  rw [← ht]
  have hto : t.to ≤ (chs z).length := by
    -- a token ends within the source
    have key : ∀ (q i : Nat) (t : Tk), i ≤ (chs z).length → (tksG (chs z) (cln z) i)[q]? = some t → t.to ≤ (chs z).length := by
      intro q
      induction q with
      | zero =>
        intro i t hi hq
        have hle := lx.tkG_le (chs z) (cln z) i hi
        by_cases he : (tkG (chs z) (cln z) i).k = 0 ∨ (tkG (chs z) (cln z) i).k = 1
        · rw [lx.tksG_end he] at hq; simp at hq; subst hq; exact hle.2.1
        · rw [lx.tksG_go hi he] at hq; simp at hq; subst hq; exact hle.2.1
      | succ q ih =>
        intro i t hi hq
        have hle := lx.tkG_le (chs z) (cln z) i hi
        by_cases he : (tkG (chs z) (cln z) i).k = 0 ∨ (tkG (chs z) (cln z) i).k = 1
        · rw [lx.tksG_end he] at hq; simp at hq
        · rw [lx.tksG_go hi he] at hq
          exact ih _ t hle.2.1 (by simpa using hq)
    exact key m 0 t (Nat.zero_le _) hget
  have H := loc_behind (lx.chs_sc hz) hto tl
  obtain ⟨z', hz'⟩ : ∃ z', z' = behind (chs z) t.to tl := ⟨_, rfl⟩
  rw [← hz'] at H ⊢
  have hloc := (lx.tks_loc H (cl := cln z) (cl' := cln z') m 0 t (Nat.zero_le _) (Nat.zero_le _) hget h0 h1 (Nat.le_refl _)).1
  have hS : Sim m (newG z d) (newG z' d) := ⟨rfl, rfl, rfl, rfl, hloc⟩
  obtain ⟨e1, e2⟩ := litF_near ct (toks z).length (toks z').length (newG z d) (newG z' d) (newG_ok' z d) (newG_ok' z' d) hS (Nat.le_add_right _ _) (Nat.le_add_right _ _) (by rw [← hix, ← hm]; exact Nat.le_refl _)
  have hlm : (litF ct (toks z).length (newG z d)).2.ix ≤ m := by rw [← hix, ← hm]; exact Nat.le_refl _
  have hR : Sim m (readLG z ct d).2 (readLG z' ct d).2 := by
    unfold readLG
    rw [e1]
    split
    · exact e2.fin hlm
    · exact e2
  exact ⟨hR.kd, by rw [hR.tok (by rw [← hm]; exact Nat.le_refl _), ht]⟩
/-- places tell tokens apart -/
theorem posT_up (l : List Int) : ∀ (k j : Nat), j < k → (posT l j).1 < (posT l k).1 ∨ ((posT l j).1 = (posT l k).1 ∧ (posT l j).2 < (posT l k).2)
  | 0, j, h => by omega
  | k + 1, j, h => by
    simp only [posT]
    by_cases e : j = k
    · subst e
      cases enB l j
      · right; simp; omega
      · left; simp; omega
    · have := posT_up l k j (by omega)
      cases enB l k
      · simp; omega
      · left; simp; omega
theorem posT_inj (l : List Int) {j k : Nat} (h : posT l j = posT l k) : j = k := by
  rcases Nat.lt_trichotomy j k with h1 | h1 | h1
  · have := posT_up l k j h1; rw [h] at this; omega
  · exact h1
  · have := posT_up l j k h1; rw [h] at this; omega
theorem tks_fr (l : List Int) (cl : Bool) : ∀ (q i : Nat) (t : Tk), i ≤ l.length → (tksG l cl i)[q]? = some t → i ≤ t.fr ∧ (t.ln, t.co) = posT l t.fr
  | 0, i, t, hi, h => by
    have h0 : (tksG l cl i)[0]? = some (tkG l cl i) := by
      by_cases he : (tkG l cl i).k = 0 ∨ (tkG l cl i).k = 1
      · rw [lx.tksG_end he]; rfl
      · rw [lx.tksG_go hi he]; rfl
    rw [h0] at h
    obtain rfl := Option.some.inj h
    exact ⟨(lx.ign_le l false i).1, rfl⟩
  | q + 1, i, t, hi, h => by
    have hle := lx.tkG_le l cl i hi
    by_cases he : (tkG l cl i).k = 0 ∨ (tkG l cl i).k = 1
    · rw [lx.tksG_end he] at h; simp at h
    · rw [lx.tksG_go hi he] at h
      have := tks_fr l cl q _ t hle.2.1 (by simpa using h)
      have hit : i < (tkG l cl i).to := by rcases hle.2.2 with h | h | h; exact absurd (.inl h) he; exact absurd (.inr h) he; exact h
      exact ⟨by omega, this.2⟩
theorem tks_fr_lt (l : List Int) (cl : Bool) : ∀ (q m i : Nat) (t u : Tk), i ≤ l.length → q < m → (tksG l cl i)[q]? = some t → (tksG l cl i)[m]? = some u → t.fr < u.fr
  | q, 0, i, t, u, hi, hqm, h, h' => by omega
  | q, m + 1, i, t, u, hi, hqm, h, h' => by
    have hle := lx.tkG_le l cl i hi
    by_cases he : (tkG l cl i).k = 0 ∨ (tkG l cl i).k = 1
    · rw [lx.tksG_end he] at h'; simp at h'
    · have hgo := lx.tksG_go hi he
      rw [hgo] at h h'
      cases q with
      | zero =>
        simp at h
        subst h
        have h2 := tks_fr l cl m _ u hle.2.1 (by simpa using h')
        have hr := lx.rdG_le l cl (lx.ign l false i) ((lx.ign_le l false i).2 hi)
        have : (tkG l cl i).fr < (tkG l cl i).to := by
          rcases hr.2.2 with h | h | h
          · exact absurd (.inl h) he
          · exact absurd (.inr h) he
          · exact h
        omega
      | succ q => exact tks_fr_lt l cl q m _ t u hle.2.1 (by omega) (by simpa using h) (by simpa using h')
theorem toks_at (z : List Int) {q m : Nat} {t u : Tk} (h : (toks z)[q]? = some t) (h' : (toks z)[m]? = some u) (e : t.ln = u.ln ∧ t.co = u.co) : q = m := by
  have h1 := (tks_fr _ _ q 0 t (Nat.zero_le _) h).2
  have h2 := (tks_fr _ _ m 0 u (Nat.zero_le _) h').2
  have h3 : t.fr = u.fr := posT_inj (chs z) (by rw [← h1, ← h2, e.1, e.2])
  rcases Nat.lt_trichotomy q m with h4 | h4 | h4
  · have := tks_fr_lt _ _ q m 0 t u (Nat.zero_le _) h4 h h'; omega
  · exact h4
  · have := tks_fr_lt _ _ m q 0 u t (Nat.zero_le _) h4 h' h; omega
end Go.Proofs.YtmhelpocddndjaaGreat.cu
