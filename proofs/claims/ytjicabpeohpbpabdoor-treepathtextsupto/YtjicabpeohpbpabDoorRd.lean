import Derived.Test.YtjicabpeohpbpabDoorTxt
import Derived.Lib.Split
import Derived.Lib.Replace
import Derived.Lib.AtoiAll
import Derived.Lib.CountLaws
namespace Go.Proofs.YtjicabpeohpbpabDoor.stp
open Go.ChangeShapes Go.WideShapes Go.ChangeAt Go.RowKit
set_option linter.unusedVariables false

theorem idx_no : ∀ {x : List UInt8}, (47 : UInt8) ∉ x → Lib.index x [47] = -1
  | [], _ => by simp [Lib.index]
  | b :: l, h => by
    have hb : ¬ (47 : UInt8) = b := fun e => h (by rw [e]; simp)
    have ih := idx_no (x := l) (fun e => h (List.mem_cons_of_mem _ e))
    unfold Lib.index
    rw [ih]
    simp [List.isPrefixOf, hb]
theorem idx_at : ∀ {x : List UInt8} (y : List UInt8), (47 : UInt8) ∉ x → Lib.index (x ++ 47 :: y) [47] = (x.length : Nat)
  | [], y, _ => by simp [Lib.index, List.isPrefixOf]
  | b :: l, y, h => by
    have hb : ¬ (47 : UInt8) = b := fun e => h (by rw [e]; simp)
    have ih := idx_at (x := l) y (fun e => h (List.mem_cons_of_mem _ e))
    rw [List.cons_append]
    unfold Lib.index
    rw [ih]
    simp [List.isPrefixOf, hb]
theorem ptx_cons (s : St) (ss : List St) : ptx (s :: ss) = 47 :: (encS s ++ ptx ss) := by simp [ptx, List.flatMap_cons]
theorem drop_app {x y : List UInt8} (c : UInt8) : (x ++ c :: y).drop (x.length + 1) = y := by
  rw [List.drop_append]
  simp
theorem split_ptx : ∀ (ss : List St) (x : List UInt8) (k : Nat), (47 : UInt8) ∉ x → ss.length ≤ k → Lib.splitK [47] 0 k (x ++ ptx ss) = x :: ss.map encS
  | [], x, k, hx, _ => by
    have hi := idx_no hx
    have e : x ++ ptx [] = x := by simp [ptx]
    rw [e]
    cases k with
    | zero => rfl
    | succ k => unfold Lib.splitK; rw [hi]; rfl
  | s :: ss, x, k, hx, hk => by
    cases k with
    | zero => simp at hk
    | succ k =>
      have hi := idx_at (encS s ++ ptx ss) hx
      have ih := split_ptx ss (encS s) k (encS_no s) (by simpa using hk)
      rw [ptx_cons]
      unfold Lib.splitK
      rw [hi]
      have hne : ¬ (((x.length : Nat) : Int) == -1) = true := by
        intro e
        have := beq_iff_eq.1 e
        omega
      rw [if_neg hne]
      simp only [Int.toNat_natCast, List.length_cons, List.length_nil, Nat.zero_add, Nat.add_zero]
      rw [drop_app, ih, List.take_left]
      rfl
theorem count_ptx : ∀ (ss : List St) (x : List UInt8), (47 : UInt8) ∉ x → Lib.count (x ++ ptx ss) [47] = ss.length
  | [], x, hx => by
    have e : x ++ ptx [] = x := by simp [ptx]
    rw [e, Lib.count_miss (idx_no hx)]
    rfl
  | s :: ss, x, hx => by
    have ih := count_ptx ss (encS s) (encS_no s)
    rw [ptx_cons, Lib.count_hit (by simp) (idx_at _ hx)]
    simp only [List.length_cons, List.length_nil, Nat.zero_add]
    rw [drop_app, ih]
    omega
theorem count47 : ∀ (ss : List St), Lib.countByte (ptx ss) 47 = ss.length
  | [] => by simp [ptx, Lib.countByte]
  | s :: ss => by
    have ih := count47 ss
    unfold Lib.countByte at *
    rw [ptx_cons, List.count_cons, List.count_append, ih, List.count_eq_zero_of_not_mem (encS_no s)]
    simp
/-- what replacing a pair '~y' by a text does, from the left -/
def scan (y : UInt8) (new : List UInt8) : List UInt8 → List UInt8
  | a :: b :: r => if a = 126 ∧ b = y then new ++ scan y new r else a :: scan y new (b :: r)
  | l => l
theorem scan_cons {y a : UInt8} {new : List UInt8} (h : a ≠ 126) : ∀ X, scan y new (a :: X) = a :: scan y new X
  | [] => by simp [scan]
  | b :: r => by simp [scan, h]
theorem pre2 (a b y : UInt8) (r : List UInt8) : [126, y].isPrefixOf (a :: b :: r) = decide (a = 126 ∧ b = y) := by
  simp [List.isPrefixOf]
  by_cases h1 : a = 126
  · by_cases h2 : b = y
    · simp [h1, h2]
    · have h2' : ¬ y = b := fun e => h2 e.symm
      simp [h1, h2, h2']
  · have h1' : ¬ 126 = a := fun e => h1 e.symm
    simp [h1, h1']
theorem rep_scan (y : UInt8) (new : List UInt8) : ∀ (n : Nat) (l : List UInt8), l.length ≤ n → Lib.replaceK [126, y] new (Lib.count l [126, y]) l = scan y new l
  | _, [], _ => by
    rw [Lib.count_miss (by simp [Lib.index])]
    rfl
  | _, [a], _ => by
    rw [Lib.count_miss (by simp [Lib.index, List.isPrefixOf])]
    rfl
  | 0, a :: b :: r, h => by simp at h
  | n + 1, a :: b :: r, h => by
    simp only [List.length_cons] at h
    by_cases hab : a = 126 ∧ b = y
    · have hi : Lib.index (a :: b :: r) [126, y] = ((0 : Nat) : Int) := by
        unfold Lib.index
        rw [pre2, if_pos (by simpa using hab)]
        rfl
      have ih := rep_scan y new n r (by omega)
      rw [Lib.count_hit (by simp) hi, Nat.add_comm 1, Lib.replaceK_hit _ _ _ _ 0 hi]
      simp only [List.length_cons, List.length_nil, Nat.zero_add, List.take_zero, List.nil_append, List.drop_succ_cons, List.drop_zero]
      rw [ih, scan, if_pos hab]
    · have ih := rep_scan y new n (b :: r) (by simp; omega)
      have hs : scan y new (a :: b :: r) = a :: scan y new (b :: r) := by rw [scan, if_neg hab]
      rw [hs, ← ih]
      have hu : Lib.index (a :: b :: r) [126, y] = if Lib.index (b :: r) [126, y] == -1 then -1 else Lib.index (b :: r) [126, y] + 1 := by
        conv => lhs; unfold Lib.index
        rw [pre2, if_neg (by simpa using hab)]
      by_cases hm : Lib.index (b :: r) [126, y] = -1
      · rw [hm] at hu
        rw [Lib.count_miss (by simpa using hu), Lib.count_miss hm]
        rfl
      · have hge := Lib.index_ge (b :: r) [126, y]
        obtain ⟨i, hi⟩ : ∃ i : Nat, Lib.index (b :: r) [126, y] = i := ⟨(Lib.index (b :: r) [126, y]).toNat, by omega⟩
        have hi2 : Lib.index (a :: b :: r) [126, y] = ((i + 1 : Nat) : Int) := by
          rw [hu, if_neg (by simpa using hm), hi]
          omega
        rw [Lib.count_hit (by simp) hi2, Lib.count_hit (by simp) hi, Nat.add_comm 1, Lib.replaceK_hit _ _ _ _ (i + 1) hi2, Nat.add_comm 1, Lib.replaceK_hit _ _ _ _ i hi]
        simp only [List.length_cons, List.length_nil, Nat.zero_add]
        rw [show i + 1 + (1 + 1) = (i + (1 + 1)) + 1 by omega, List.drop_succ_cons, List.take_succ_cons]
        simp
theorem replaceAll_scan (y : UInt8) (new l : List UInt8) (h : ([126, y] == new) = false) : Lib.replaceAll l [126, y] new = scan y new l := by
  unfold Lib.replaceAll Lib.replace
  rw [h]
  simp only [Bool.false_eq_true, if_false, Lib.replaceNum]
  rw [if_pos (.inl (by decide))]
  exact rep_scan y new _ l (Nat.le_refl _)
def esc0 (c : UInt8) : List UInt8 := if c = 126 then [126, 48] else [c]
theorem scan49 : ∀ l : List UInt8, scan 49 [47] (l.flatMap escB) = l.flatMap esc0
  | [] => rfl
  | c :: l => by
    have ih := scan49 l
    rw [List.flatMap_cons, List.flatMap_cons]
    obtain ⟨_, ⟨e, h1, h2, rfl⟩ | ⟨rfl, e⟩ | ⟨rfl, e⟩⟩ := esc_cons c
    · rw [e, show esc0 c = [c] by simp [esc0, h1]]
      simp only [List.cons_append, List.nil_append]
      rw [scan_cons h1, ih]
    · rw [e]
      simp only [List.cons_append, List.nil_append]
      rw [scan, if_neg (by decide), scan_cons (by decide), ih]
      rfl
    · rw [e]
      simp only [List.cons_append, List.nil_append]
      rw [scan, if_pos (by decide), ih]
      rfl
theorem scan48 : ∀ l : List UInt8, scan 48 [126] (l.flatMap esc0) = l
  | [] => rfl
  | c :: l => by
    have ih := scan48 l
    rw [List.flatMap_cons]
    by_cases h : c = 126
    · subst h
      rw [show esc0 126 = [126, 48] from rfl]
      simp only [List.cons_append, List.nil_append]
      rw [scan, if_pos (by decide), ih]
      rfl
    · rw [show esc0 c = [c] by simp [esc0, h]]
      simp only [List.cons_append, List.nil_append]
      rw [scan_cons h, ih]
def unesc (l : List UInt8) : List UInt8 := Lib.replaceAll (Lib.replaceAll (Lib.trimPrefix l [126, 50]) [126, 49] [47]) [126, 48] [126]
theorem unesc_enc (l : List UInt8) : unesc (encN l) = l := by
  have ht : Lib.trimPrefix (encN l) [126, 50] = l.flatMap escB := by
    unfold Lib.trimPrefix Lib.hasPrefix encN
    cases hg : guardN l
    · simp only [Bool.false_eq_true, if_false, List.nil_append]
      rw [if_neg]
      intro h
      obtain ⟨r, hr⟩ := List.isPrefixOf_iff_prefix.1 h
      exact flat_guard l r hr.symm
    · rw [if_pos rfl]
      rw [if_pos (List.isPrefixOf_iff_prefix.2 ⟨_, rfl⟩)]
      rfl
  unfold unesc
  rw [ht, replaceAll_scan 49 [47] _ (by decide), replaceAll_scan 48 [126] _ (by decide), scan49, scan48]
theorem pu_app : ∀ (l : List UInt8) (c : UInt8) (acc v : Nat), Lib.parseUint10 acc l = .ok v → Lib.parseUint10 acc (l ++ [c]) = Lib.parseUint10 v [c]
  | [], c, acc, v, h => by
    simp only [Lib.parseUint10, Lib.NumEnd.ok.injEq] at h
    subst h
    rfl
  | d :: l, c, acc, v, h => by
    rw [List.cons_append]
    unfold Lib.parseUint10 at h ⊢
    split at h
    · split at h
      · cases h
      · split at h
        · cases h
        · rename_i h1 h2 h3
          rw [if_pos h1, if_neg h2, if_neg h3]
          have := pu_app l c _ v h
          rw [this]
          unfold Lib.parseUint10
          rfl
    · cases h
theorem pu_dec (u : Nat) (hu : u < 18446744073709551616) : Lib.parseUint10 0 (Lib.decDigits u) = .ok u := by
  induction u using Nat.strongRecOn with
  | _ u ih =>
    by_cases h : u < 10
    · rw [Lib.decDigits_one h]
      unfold Lib.parseUint10
      rw [UInt8.toNat_ofNat']
      rw [if_pos (by omega), if_neg (by omega), if_neg (by omega)]
      unfold Lib.parseUint10
      congr 1
      omega
    · have := ih (u / 10) (by omega) (by omega)
      rw [dec_step h, pu_app _ _ _ _ this]
      unfold Lib.parseUint10
      rw [UInt8.toNat_ofNat']
      rw [if_pos (by omega), if_neg (by omega), if_neg (by omega)]
      unfold Lib.parseUint10
      congr 1
      omega
theorem pm_dec (u : Nat) (hu : u < 18446744073709551616) : Lib.parseMag (Lib.decDigits u) = .ok u := by
  unfold Lib.parseMag
  rw [if_neg (dec_ne u)]
  exact pu_dec u hu
theorem atoi_itoa (n : Int) (h0 : -9223372036854775808 ≤ n) (h1 : n ≤ 9223372036854775807) : Lib.atoiAll (Lib.itoa n) = .ok n := by
  unfold Lib.itoa
  by_cases hn : n < 0
  · rw [if_pos hn]
    have hp := pm_dec n.natAbs (by omega)
    have hlt : ¬ (9223372036854775808 < n.natAbs) := by omega
    simp [Lib.atoiAll, hp, hlt]
    omega
  · rw [if_neg hn]
    obtain ⟨c, r, e, k1, k2⟩ := dec_head n.toNat
    have hp := pm_dec n.toNat (by omega)
    rw [e] at hp ⊢
    have h43 : ¬ c.toNat = 43 := by omega
    have h45 : ¬ c.toNat = 45 := by omega
    have hlt : ¬ (9223372036854775808 ≤ n.toNat) := by omega
    simp [Lib.atoiAll, hp, h43, h45, hlt]
    omega
def atoiV (l : List UInt8) : Int := match Lib.atoiAll l with | .ok v => v | .syntax => 0 | .range => Lib.atoiSat l
def begL (l : List UInt8) : Bool := match l with | [] => false | c :: _ => numB c
/-- the step that a piece is read as -/
def rdS (l : List UInt8) : St := if begL l = true then ⟨⟨#[]⟩, atoiV l, true⟩ else ⟨⟨(unesc l).toArray⟩, 0, false⟩
/-- a step with nothing that doesn't count -/
def plS (s : St) : St := if s.it = true then ⟨⟨#[]⟩, s.ix, true⟩ else ⟨s.nm, 0, false⟩
theorem rd_enc (s : St) (h0 : -9223372036854775808 ≤ s.ix) (h1 : s.ix ≤ 9223372036854775807) : rdS (encS s) = plS s := by
  unfold rdS plS encS
  cases hs : s.it
  · obtain ⟨c, r, e, hc⟩ := encN_head s.nm.data.toList
    have hb : begL (encN s.nm.data.toList) = false := by rw [e]; exact hc
    simp only [Bool.false_eq_true, if_false, hb, unesc_enc]
  · rw [if_pos rfl]
    obtain ⟨c, r, e, hc⟩ := itoa_head s.ix
    have hb : begL (Lib.itoa s.ix) = true := by rw [e]; exact hc
    rw [hb, if_pos rfl, if_pos rfl]
    unfold atoiV
    rw [atoi_itoa s.ix h0 h1]
theorem enc_pl (s : St) : encS (plS s) = encS s := by
  unfold plS encS
  cases s.it <;> simp
theorem ptx_pl (ss : List St) : ptx (ss.map plS) = ptx ss := by
  unfold ptx
  rw [List.flatMap_map]
  congr 1
  funext s
  rw [enc_pl]
theorem ptx_eq : ∀ (a b : List St), ptx a = ptx b ↔ lexS a b = 0
  | [], [] => by simp [ptx, lexS]
  | [], t :: b => by simp [ptx, lexS]
  | s :: a, [] => by simp [ptx, lexS]
  | s :: a, t :: b => by
    rw [ptx_cons, ptx_cons]
    constructor
    · intro h
      simp only [List.cons.injEq, true_and] at h
      obtain ⟨h1, h2⟩ := cut47 (encS_no s) (encS_no t) (ptx_sl a) (ptx_sl b) h
      rw [lexS, if_pos ((encS_iff s t).1 h1)]
      exact (ptx_eq a b).1 h2
    · intro h
      by_cases hc : cS s t = 0
      · rw [lexS, if_pos hc] at h
        rw [(encS_iff s t).2 hc, (ptx_eq a b).2 h]
      · rw [lexS, if_neg hc] at h
        exact absurd h hc
end Go.Proofs.YtjicabpeohpbpabDoor.stp
