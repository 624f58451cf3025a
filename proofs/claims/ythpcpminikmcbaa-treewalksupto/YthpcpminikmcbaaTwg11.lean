import Derived.Test.YthpcpminikmcbaaTwg9
import Derived.Test.YthpcpminikmcbaaTwg10
import Derived.Test.YthpcpminikmcbaaTwg4
import Derived.Maps.OwnSet
import Derived.Maps.Views
import Derived.StringKeys
import Derived.OwnWalkIn
import Derived.Test.YthpcpminikmcbaaTwg8
import Derived.Test.YthpcpminikmcbaaTwg7
namespace Go.Proofs.Ythpcpminikmcbaa.og
open Go.ChangeShapes Go.WideShapes Go.ChangeAt Go.RowKit
open vl hiding cB cFl cS cF cI cK cIt
open stp (St Pth St3)
set_option linter.unusedVariables false
set_option linter.unusedSimpArgs false
/-- are these bytes well formed? -/
def clnS (s : ByteArray) : Bool := (((mem.decZ (mem.bytesZ s)).2 : Nat) : Int) == (s.size : Int)
/-- the first fault among names -/
def nmF : List (List UInt8) → List ByteArray → Int
  | _, [] => 0
  | seen, s :: r => if clnS s = false then 1 else if seen.contains s.data.toList = true then 5 else nmF (seen ++ [s.data.toList]) r
/-- what is wrong with a part by itself -/
def flw : Vl → Int
  | .mk kd _ _ f tx _ _ fls => if kd < 0 ∨ 7 ≤ kd then 2 else if kd = 3 then (if badF f = true then 6 else 0) else if kd = 4 then (if clnS tx = false then 1 else 0) else if kd = 6 then nmF [] (fls.list.map (·.1)) else 0
theorem flat_congr {α β : Type} {f g : α → List β} : ∀ {l : List α}, (∀ a ∈ l, f a = g a) → l.flatMap f = l.flatMap g
  | [], _ => rfl
  | a :: l, h => by rw [List.flatMap_cons, List.flatMap_cons, h a (List.mem_cons_self ..), flat_congr (fun b hb => h b (List.mem_cons_of_mem _ hb))]
theorem pts_shift : ∀ (v : Vl) (p : List St), pts v p = (pts v []).map (fun q => (p ++ q.1, q.2)) := by
  refine Vl.all ?_
  intro kd b n f tx ty its fls hI hF p
  have hk := mem_kids (P := fun v => ∀ p : List St, pts v p = (pts v []).map (fun q => (p ++ q.1, q.2))) (kd := kd) (b := b) (n := n) (f := f) (tx := tx) (ty := ty) hI hF
  generalize Vl.mk kd b n f tx ty its fls = v at *
  rw [pts_kids v p, pts_kids v [], List.map_cons, List.append_nil, List.map_flatMap]
  congr 1
  refine flat_congr ?_
  intro q hq
  rw [hk q hq (p ++ [q.1]), hk q hq ([] ++ [q.1]), List.map_map]
  simp [Function.comp_def]
/-- the first part with a fault -/
def ffn (v : Vl) : Option (List St × Vl) := (pts v []).find? (fun q => flw q.2 != 0)
def ffP (v : Vl) : List St := match ffn v with | none => [] | some q => q.1
def ffE (v : Vl) : Int := match ffn v with | none => 0 | some q => flw q.2
theorem ffn_kids (v : Vl) : ffn v = if flw v = 0 then (kids v).findSome? (fun q => (ffn q.2).map (fun r => (q.1 :: r.1, r.2))) else some ([], v) := by
  unfold ffn
  rw [pts_kids v [], List.find?_cons]
  by_cases h : flw v = 0
  · rw [if_pos h]
    simp only [h, bne_self_eq_false]
    rw [List.find?_flatMap]
    congr 1
    funext q
    rw [pts_shift q.2 ([] ++ [q.1]), List.find?_map]
    simp [Function.comp_def]
  · rw [if_neg h]
    have : (flw v != 0) = true := by simpa using h
    simp only [this]
theorem ffE_none {v : Vl} (h : ffE v = 0) : ffn v = none := by
  unfold ffE at h
  cases hn : ffn v with
  | none => rfl
  | some q =>
    rw [hn] at h
    have := List.find?_some (show (pts v []).find? (fun q => flw q.2 != 0) = some q from hn)
    simp at this
    exact absurd h this
theorem ff_own {v : Vl} (h : flw v ≠ 0) : ffP v = [] ∧ ffE v = flw v := by
  have e := ffn_kids v
  rw [if_neg h] at e
  unfold ffP ffE
  rw [e]
  exact ⟨rfl, rfl⟩
theorem ff_done {v : Vl} (h : flw v = 0) (hk : ∀ q ∈ kids v, ffE q.2 = 0) : ffP v = [] ∧ ffE v = 0 := by
  have e := ffn_kids v
  rw [if_pos h, List.findSome?_eq_none_iff.2 (fun q hq => by rw [ffE_none (hk q hq)]; rfl)] at e
  unfold ffP ffE
  rw [e]
  exact ⟨rfl, rfl⟩
theorem ff_stop {v : Vl} (h : flw v = 0) {pre : List (St × Vl)} {q : St × Vl} {k : Nat} (hk : pre ++ [q] = (kids v).take k) (hp : ∀ x ∈ pre, ffE x.2 = 0) (hq : ffE q.2 ≠ 0) : ffP v = q.1 :: ffP q.2 ∧ ffE v = ffE q.2 := by
  have e := ffn_kids v
  rw [if_pos h, ← List.take_append_drop k (kids v), ← hk, List.append_assoc, List.findSome?_append, List.findSome?_eq_none_iff.2 (fun x hx => by rw [ffE_none (hp x hx)]; rfl), Option.none_or, List.singleton_append, List.findSome?_cons] at e
  cases hn : ffn q.2 with
  | none => unfold ffE at hq; rw [hn] at hq; exact absurd rfl hq
  | some r =>
    rw [hn] at e
    simp only [Option.map_some] at e
    unfold ffP ffE
    rw [e, hn]
    exact ⟨rfl, rfl⟩
theorem ff_find {v : Vl} {k : Nat} {q : List St × Vl} (hk : (pts v [])[k]? = some q) (hp : ∀ j x, j < k → (pts v [])[j]? = some x → flw x.2 = 0) (hq : flw q.2 ≠ 0) : ffP v = q.1 ∧ ffE v = flw q.2 := by
  have e : ffn v = some q := by
    unfold ffn
    have hs := List.take_append_drop k (pts v [])
    rw [← hs, List.find?_append]
    have h1 : ((pts v []).take k).find? (fun q => flw q.2 != 0) = none := by
      rw [List.find?_eq_none]
      intro x hx
      obtain ⟨j, hj, hjx⟩ := List.mem_take_iff_getElem.1 hx
      have := hp j x (by omega) (by rw [← hjx]; exact List.getElem?_eq_getElem _)
      simp [this]
    obtain ⟨hl, hv⟩ := List.getElem?_eq_some_iff.1 hk
    rw [h1, Option.none_or, List.drop_eq_getElem_cons hl, hv, List.find?_cons]
    have : (flw q.2 != 0) = true := by simpa using hq
    simp only [this]
  unfold ffP ffE
  rw [e]
  exact ⟨rfl, rfl⟩
theorem ff_none {v : Vl} (hp : ∀ j x, j < (pts v []).length → (pts v [])[j]? = some x → flw x.2 = 0) : ffP v = [] ∧ ffE v = 0 := by
  have e : ffn v = none := by
    unfold ffn
    rw [List.find?_eq_none]
    intro x hx
    obtain ⟨j, hj, rfl⟩ := List.mem_iff_getElem.1 hx
    simp [hp j _ hj (List.getElem?_eq_getElem hj)]
  unfold ffP ffE
  rw [e]
  exact ⟨rfl, rfl⟩
/-- a part's path is no longer than the parts are many -/
theorem pts_path : ∀ (v : Vl) (q : List St × Vl), q ∈ pts v [] → q.1.length < cnt v := by
  refine Vl.all ?_
  intro kd b n f tx ty its fls hI hF q hq
  have hk := mem_kids (P := fun v => ∀ q : List St × Vl, q ∈ pts v [] → q.1.length < cnt v) (kd := kd) (b := b) (n := n) (f := f) (tx := tx) (ty := ty) hI hF
  generalize Vl.mk kd b n f tx ty its fls = v at *
  rw [pts_kids v []] at hq
  rcases List.mem_cons.1 hq with rfl | hq
  · rw [cnt_kids]; simp; omega
  · rw [List.mem_flatMap] at hq
    obtain ⟨x, hx, hq⟩ := hq
    rw [pts_shift, List.mem_map] at hq
    obtain ⟨r, hr, rfl⟩ := hq
    have h1 := hk x hx r hr
    obtain ⟨j, hj, e⟩ := List.mem_iff_getElem.1 hx
    have h2 := cnt_kid (v := v) (k := j) (q := x) (by rw [← e]; exact List.getElem?_eq_getElem hj)
    simp
    omega
theorem ffP_len (v : Vl) : (ffP v).length < cnt v := by
  unfold ffP
  cases hn : ffn v with
  | none => rw [cnt_kids]; simp; omega
  | some q => exact pts_path v q (List.mem_of_find?_eq_some hn)
end Go.Proofs.Ythpcpminikmcbaa.og
namespace Go.Proofs.Ythpcpminikmcbaa.og
open Go.ChangeShapes Go.WideShapes Go.ChangeAt Go.RowKit
open vl hiding cB cFl cS cF cI cK cIt
open stp (St Pth St3)
set_option linter.unusedVariables false
set_option linter.unusedSimpArgs false
/-- names without a fault differ -/
theorem nmF_nodup : ∀ (l : List ByteArray) (seen : List (List UInt8)), nmF seen l = 0 → (∀ s ∈ l, s.data.toList ∉ seen) ∧ l.Pairwise (· ≠ ·)
  | [], seen, _ => ⟨fun s hs => by simp at hs, List.Pairwise.nil⟩
  | s :: r, seen, h => by
    unfold nmF at h
    split at h
    · cases h
    · split at h
      · cases h
      · rename_i h1 h2
        obtain ⟨i1, i2⟩ := nmF_nodup r _ h
        have hs : s.data.toList ∉ seen := by simpa using h2
        refine ⟨fun t ht => ?_, List.pairwise_cons.2 ⟨fun t ht e => ?_, i2⟩⟩
        · rcases List.mem_cons.1 ht with rfl | ht
          · exact hs
          · intro hm
            exact i1 t ht (List.mem_append.2 (.inl hm))
        · subst e
          exact i1 s ht (by simp)
theorem find_idx {α : Type} [DecidableEq α] : ∀ (l : List (α × Vl)) (k : Nat) (nm : α) (u : Vl), (l.map (·.1)).Pairwise (· ≠ ·) → l[k]? = some (nm, u) → l.findIdx? (fun q => decide (q.1 = nm)) = some k
  | [], k, nm, u, _, h => by simp at h
  | a :: l, k, nm, u, hp, h => by
    rw [List.map_cons, List.pairwise_cons] at hp
    cases k with
    | zero =>
      obtain rfl : a = (nm, u) := by simpa using h
      simp [List.findIdx?_cons]
    | succ k =>
      have h' : l[k]? = some (nm, u) := by simpa using h
      have hn : a.1 ≠ nm := hp.1 nm (List.mem_map.2 ⟨(nm, u), List.mem_of_getElem? h', rfl⟩)
      rw [List.findIdx?_cons]
      simp [hn, find_idx l k nm u hp.2 h']
theorem getS_kid {v u : Vl} {s : St} (hf : flw v = 0) {k : Nat} (hk : (kids v)[k]? = some (s, u)) : getS v s = some u := by
  obtain ⟨kd, b, n, f, tx, ty, its, fls⟩ := v
  unfold getS
  simp only
  rw [chI_mk]
  by_cases h5 : kd = 5
  · subst h5
    rw [kids_list] at hk
    simp only [List.getElem?_map, List.getElem?_zipIdx, Option.map_map] at hk
    cases he : its.list[k]? with
    | none => simp [he] at hk
    | some y =>
      simp [he] at hk
      obtain ⟨rfl, rfl⟩ := hk
      have hl := (List.getElem?_eq_some_iff.1 he).1
      simp [he]
      rw [if_pos (by omega)]
      simp [he]
  · by_cases h6 : kd = 6
    · subst h6
      rw [kids_obj] at hk
      simp only [List.getElem?_map] at hk
      cases he : fls.list[k]? with
      | none => simp [he] at hk
      | some y =>
        simp [he] at hk
        obtain ⟨rfl, rfl⟩ := hk
        have hnm : nmF [] (fls.list.map (·.1)) = 0 := by simpa [flw] using hf
        have := find_idx fls.list k y.1 y.2 (nmF_nodup _ _ hnm).2 he
        simp [this, he]
    · rw [kids_none h5 h6] at hk
      simp at hk
theorem getP_pts : ∀ v : Vl, (∀ q ∈ pts v [], flw q.2 = 0) → ∀ q ∈ pts v [], getP v q.1 = some q.2 := by
  refine Vl.all ?_
  intro kd b n f tx ty its fls hI hF
  have hk := mem_kids (P := fun v => (∀ q ∈ pts v [], flw q.2 = 0) → ∀ q ∈ pts v [], getP v q.1 = some q.2) (kd := kd) (b := b) (n := n) (f := f) (tx := tx) (ty := ty) hI hF
  generalize Vl.mk kd b n f tx ty its fls = v at *
  intro hf q hq
  rw [pts_kids v []] at hq
  rcases List.mem_cons.1 hq with rfl | hq
  · rfl
  · obtain ⟨c, hc, hq⟩ := List.mem_flatMap.1 hq
    rw [pts_shift] at hq
    obtain ⟨r, hr, rfl⟩ := List.mem_map.1 hq
    obtain ⟨i, hi, rfl⟩ := List.mem_iff_getElem.1 hc
    have hcf : ∀ q ∈ pts (kids v)[i].2 [], flw q.2 = 0 := fun q hq => by
      have := hf ([(kids v)[i].1] ++ q.1, q.2) (by
        rw [pts_kids v []]
        refine List.mem_cons_of_mem _ (List.mem_flatMap.2 ⟨_, hc, ?_⟩)
        rw [pts_shift]
        exact List.mem_map.2 ⟨q, hq, rfl⟩)
      exact this
    have h1 := hk _ hc hcf r hr
    have h0 : flw v = 0 := hf ([], v) (by rw [pts_kids v []]; exact List.mem_cons_self ..)
    have h2 : getS v (kids v)[i].1 = some (kids v)[i].2 := getS_kid h0 (List.getElem?_eq_getElem hi)
    show getP v ((kids v)[i].1 :: r.1) = some r.2
    rw [getP, h2]
    exact h1
theorem ffE_all {v : Vl} (h : ffE v = 0) : ∀ q ∈ pts v [], flw q.2 = 0 := fun q hq => by
  have := ffE_none h
  unfold ffn at this
  rw [List.find?_eq_none] at this
  simpa using this q hq
/-- the paths grow by no more than a step at a time -/
def Lk : List (List St × Vl) → Nat → Prop
  | [], _ => True
  | a :: l, d => a.1.length ≤ d + 1 ∧ Lk l a.1.length
theorem Lk.mono {l : List (List St × Vl)} {d d' : Nat} (h : Lk l d) (hd : d ≤ d') : Lk l d' := by
  cases l with
  | nil => trivial
  | cons a l => exact ⟨by have := h.1; omega, h.2⟩
theorem Lk.app : ∀ {l r : List (List St × Vl)} {d m : Nat}, Lk l d → (∀ a ∈ l, m ≤ a.1.length) → m ≤ d → Lk r m → Lk (l ++ r) d
  | [], r, d, m, _, _, hd, hr => hr.mono hd
  | a :: l, r, d, m, hl, ha, hd, hr => ⟨hl.1, Lk.app hl.2 (fun b hb => ha b (List.mem_cons_of_mem _ hb)) (ha a (List.mem_cons_self ..)) hr⟩
theorem pts_long (v : Vl) (p : List St) : ∀ q ∈ pts v p, p.length ≤ q.1.length := fun q hq => by
  rw [pts_shift] at hq
  obtain ⟨r, -, rfl⟩ := List.mem_map.1 hq
  simp
theorem lk_pts : ∀ (v : Vl) (p : List St) (d : Nat), p.length ≤ d + 1 → Lk (pts v p) d := by
  refine Vl.all ?_
  intro kd b n f tx ty its fls hI hF
  have hk := mem_kids (P := fun v => ∀ (p : List St) (d : Nat), p.length ≤ d + 1 → Lk (pts v p) d) (kd := kd) (b := b) (n := n) (f := f) (tx := tx) (ty := ty) hI hF
  generalize Vl.mk kd b n f tx ty its fls = v at *
  intro p d hd
  rw [pts_kids]
  refine ⟨hd, ?_⟩
  have key : ∀ l : List (St × Vl), (∀ q ∈ l, q ∈ kids v) → Lk (l.flatMap (fun q => pts q.2 (p ++ [q.1]))) p.length := by
    intro l
    induction l with
    | nil => intro _; trivial
    | cons a l ih =>
      intro hl
      rw [List.flatMap_cons]
      refine Lk.app (m := p.length) (hk a (hl a (List.mem_cons_self ..)) _ _ (by simp)) (fun q hq => ?_) (Nat.le_refl _) (ih (fun q hq => hl q (List.mem_cons_of_mem _ hq)))
      have := pts_long _ _ q hq
      simp at this
      omega
  exact key _ (fun q hq => hq)
theorem pts_head {v : Vl} {pre : List (List St × Vl)} {x : List St × Vl} {r : List (List St × Vl)} (h : pre ++ x :: r = pts v []) : (pre.length = 0 ↔ x.1.length = 0) := by
  rw [pts_kids] at h
  cases pre with
  | nil =>
    have : x = ([], v) := (List.cons.inj h).1
    simp [this]
  | cons a pre =>
    have hx : x ∈ (kids v).flatMap (fun q => pts q.2 ([] ++ [q.1])) := by
      rw [← (List.cons.inj h).2]
      simp
    obtain ⟨c, -, hq⟩ := List.mem_flatMap.1 hx
    have := pts_long _ _ x hq
    simp at this
    constructor
    · intro h; simp at h
    · intro h; omega
end Go.Proofs.Ythpcpminikmcbaa.og
namespace Go.Proofs.Ythpcpminikmcbaa.og
open Go.ChangeShapes Go.WideShapes Go.ChangeAt Go.RowKit
open vl hiding cB cFl cS cF cI cK cIt
open Go.Maps
set_option linter.unusedVariables false
set_option linter.unusedSimpArgs false
theorem lawS : Keyed Try.prog 9 := string_keyed Try.underlying9
theorem zeroU (w : World) : (zeroValue 146).run Try.prog w = .ok (.agg #[]) w := by kernel_rfl
theorem mapHint (n : Int) (w : World) : (Instr.makeMap 145 (some (.int .i64 n))).run Try.prog w = .ok (.map (some w.heap.size)) (w.alloc (.map #[] 0)) := by
  simp [Instr.makeMap, go_sem, run_underlying Try.underlying145]
theorem map_below {H : Type} {P : Program} {k : TypeId} {R : Value → Option (DataW H × List MemPlace)} {w w' : World} {b n : Nat} {D : DataW H} (h : w.ownsMap P k R b n D) (hb : Below w.heap.size w w') : w'.ownsMap P k R b n D := by
  have hlt := h.lt
  obtain ⟨es, clock, hh, r⟩ := h
  exact ⟨es, clock, (hb.block b hlt).trans hh, r⟩
def nms (fls : Fls) : List Lit := fls.list.map fun p => Lit.string p.1.data.toList
theorem nms_key (fls : Fls) (k : Nat) : ∀ x ∈ (nms fls).take k, WideAt.IsKeyLit x := by
  intro x hx
  have := List.mem_of_mem_take hx
  unfold nms at this
  rw [List.mem_map] at this
  obtain ⟨p, _, rfl⟩ := this
  trivial
def seenN (fls : Fls) (k : Nat) : List (List UInt8) := ((fls.list.map (·.1)).take k).map (fun s => s.data.toList)
theorem nms_has (fls : Fls) (k : Nat) (nm : ByteArray) : Maps.has (Maps.setOf (H := Unit) (.agg []) ((nms fls).take k)) (.string nm.data.toList) = (seenN fls k).contains nm.data.toList := by
  rw [Maps.has_setOf _ _ _ (nms_key fls k), List.contains_eq_any_beq]
  have e : (nms fls).take k = (seenN fls k).map Lit.string := by
    unfold nms seenN
    rw [← List.map_take, ← List.map_take, List.map_map, List.map_map]
    rfl
  rw [e, List.any_map]
  congr 1
  funext x
  show (Lit.string x).sameKey (.string nm.data.toList) = (nm.data.toList == x)
  by_cases h : x = nm.data.toList
  · subst h
    rw [WideAt.sameKey_self (a := Lit.string nm.data.toList) (by trivial)]
    simp
  · rw [Maps.sameKey_ne (fun e => h (by cases e; rfl))]
    symm
    simpa using fun e => h e.symm
theorem nms_snoc {fls : Fls} {k : Nat} {x : Lit} (hx : (nms fls)[k]? = some x) : Maps.setOf (H := Unit) (.agg []) ((nms fls).take (k + 1)) = (Maps.setOf (.agg []) ((nms fls).take k)).put x (.agg []) := by
  rw [List.take_add_one, hx, ← Maps.setOf_snoc]; rfl
theorem nmF_step {fls : Fls} {k : Nat} {nm : ByteArray} {v : Vl} (hg : fls.list[k]? = some (nm, v)) : nmF (seenN fls k) ((fls.list.map (·.1)).drop k) = if clnS nm = false then 1 else if (seenN fls k).contains nm.data.toList = true then 5 else nmF (seenN fls (k + 1)) ((fls.list.map (·.1)).drop (k + 1)) := by
  obtain ⟨hk, e⟩ := List.getElem?_eq_some_iff.1 hg
  have hk' : k < (fls.list.map (·.1)).length := by simpa using hk
  have e' : (fls.list.map (·.1))[k] = nm := by simp [e]
  rw [List.drop_eq_getElem_cons hk', e', nmF]
  have hs : seenN fls (k + 1) = seenN fls k ++ [nm.data.toList] := by
    unfold seenN
    rw [List.take_add_one, List.getElem?_eq_getElem hk', e', List.map_append]
    rfl
  rw [hs]
theorem clean_ok (s : ByteArray) (w : World) (hs : s.size ≤ 9223372036854775807) : Calls Try.prog 83 #[.string s] w fun e w' => e = .returned (.bool (clnS s)) ∧ Below w.heap.size w w' := mem.clean_str s w hs
set_option maxHeartbeats 4000000 in
set_option maxRecDepth 100000 in
theorem names_ok (fls : Fls) (a : Option Addr) (n c : Nat) (w : World) (h : FlsAt w fls a n) (hn : n ≤ 1099511627776) :
    Calls Try.prog 84 #[.slice a n c] w fun e w' => e = .returned (.int .i64 (nmF [] (fls.list.map (·.1)))) ∧ Below w.heap.size w w' := by
  have hmm := mapHint
  have hsf := storeF
  have hsz := FlsAt.len fls a n h
  obtain ⟨R, hR⟩ : ∃ R, nmF [] (fls.list.map (·.1)) = R := ⟨_, rfl⟩
  rw [hR]
  have HR := hide hR
  clear hR
  have HZ := hide hsz
  clear hsz
  go_enter Try.func84, Try.ntmps84
  go_wp2_with fail
  go_loopw [13] (fun vi wr => ∃ k : Nat, k ≤ n ∧ vi = .int .i64 k ∧ vl.Hid (nmF (seenN fls k) ((fls.list.map (·.1)).drop k) = R) ∧ wr.ownsMap Try.prog 9 unitElem w.heap.size k (Maps.setOf (H := Unit) (.agg []) ((nms fls).take k)) ∧ Below w.heap.size w wr ∧ w.heap.size + 1 ≤ wr.heap.size) (fun vi _ => n - (intOf vi).toNat)
  case atStart => exact ⟨0, Nat.zero_le _, rfl, hide (unhide HR), World.ownsMap_made _ _ _ _, (Below.refl _ _).alloc (Nat.le_refl _) _, by simp⟩
  case round =>
    obtain ⟨k, hk, rfl, hres, hown, hb, hs1⟩ := hrel
    by_cases hlt : k < n
    · obtain ⟨b, off, nm, v, cs, rfl, hg, hc0, hnm, hr, hv⟩ := FlsAt.get fls _ n h k hlt
      have hbw := World.block_lt_of_cell? w _ hc0
      have hbw : b < w.heap.size := hbw
      cases v with
      | mk kd bb ni f tx ty its fl =>
      unfold VlC at hv
      obtain ⟨ai, nI, ci, af, nf, cf, rfl, -⟩ := hv
      obtain ⟨r0, r1, r2, r3, r4, r5, r6, r7⟩ := hr.eight
      have d (j : Nat) (u : Value) (hj : w.cell? ⟨b, j, none⟩ = some u) : wr.cell? ⟨b, j, none⟩ = some u := (hb.cell (p := ⟨b, j, none⟩) hbw).trans hj
      have c0 := d _ _ hc0
      have c1 := d _ _ r0
      have c2 := d _ _ r1
      have c3 := d _ _ r2
      have c4 := d _ _ r3
      have c5 := d _ _ r4
      have c6 := d _ _ r5
      have c7 := d _ _ r6
      have c8 := d _ _ r7
      have hx : (nms fls)[k]? = some (.string nm.data.toList) := by simp [nms, hg]
      have hstep := nmF_step hg
      rw [unhide hres] at hstep
      have hhas := nms_has fls k nm
      have hsn := hide (nms_snoc hx)
      have hkey : keyOf Try.prog 9 (.string nm) = some (.string nm.data.toList) := Go.WideMaps.keyOf_string_mk Try.underlying9 hnm
      have U := hide (fun W => clean_ok nm W (by unfold maxLen at hnm; omega))
      generalize (seenN fls k).contains nm.data.toList = C at *
      generalize clnS nm = L at *
      have HS := hide hstep
      clear hstep hc0 r0 r1 r2 r3 r4 r5 r6 r7 hr hx hg d h hres
      have ki : (k : Int) < (n : Int) := by omega
      go_wp2_with fail
      refine (unhide U _).mono ?_
      rintro e w1 ⟨rfl, b1⟩
      clear U c0 c1 c2 c3 c4 c5 c6 c7 c8
      have hs2 : wr.heap.size + 1 ≤ w1.heap.size := by have := b1.size; simp at this; omega
      have x0 : w1.cell? ⟨wr.heap.size, 0, none⟩ = some (.string nm) := by
        rw [b1.cell (p := ⟨wr.heap.size, 0, none⟩) (by simp)]
        simp
      have x1 : ∀ o, (w1.alloc o).cell? ⟨wr.heap.size, 0, none⟩ = some (.string nm) := fun o => (((Below.refl w1.heap.size w1).alloc (Nat.le_refl _) o).cell (p := ⟨wr.heap.size, 0, none⟩) (show wr.heap.size < w1.heap.size by omega)).trans x0
      have hown1 := map_below (hown.alloc _) b1
      have hb1 : Below w.heap.size w w1 := (hb.alloc (by omega) _).trans (b1.mono (by simp; omega))
      have hsz1 : w.heap.size < w1.heap.size := by omega
      clear hown hb b1 hmm hsf
      cases L with
      | false =>
        go_wp2
        go_ret
        exact ⟨by rw [unhide HS]; rfl, hb1⟩
      | true =>
        cases C with
        | true =>
          go_wp2_with (first
            | (at_lookup; refine wpList_lookup_own_unit _ rfl _ _ 145 rfl 9 146 lawS Try.underlying145 (zeroU _) w.heap.size k _ rfl hown1 _ _ rfl hkey ?_; rw [hhas])
            | go_in)
          go_ret
          exact ⟨by rw [unhide HS]; rfl, hb1.alloc (by omega) _⟩
        | false =>
          go_wp2_with (first
            | (at_lookup; refine wpList_lookup_own_unit _ rfl _ _ 145 rfl 9 146 lawS Try.underlying145 (zeroU _) w.heap.size k _ rfl hown1 _ _ rfl hkey ?_; rw [hhas])
            | (at_mapUpdate; refine wpList_mapUpdate_own _ rfl _ _ _ 145 rfl 9 146 lawS Try.underlying145 (unitElem (H := Unit)) w.heap.size k _ rfl (hown1.alloc _) (by unfold maxLen; omega) _ _ _ rfl rfl hkey _ [] unitElem_mk ?_; intro w2 hown2 hgrow2)
            | go_in)
          have s2 := hgrow2.size
          simp at s2
          refine ⟨⟨k + 1, by omega, rfl, hide (by rw [unhide HS]; rfl), ?_, ?_, by omega⟩, ?_⟩
          · rw [unhide hsn]; exact hown2
          · exact (hb1.alloc (by omega) _).grown hgrow2 (by simp; omega) (fun j hj => by cases hj; exact Nat.le_refl _)
          · simp only [intOf]
            omega
    · have hfin : R = 0 := by
        have := unhide hres
        rw [List.drop_eq_nil_of_le (by rw [List.length_map, unhide HZ]; omega)] at this
        rw [← this, nmF]
      subst hfin
      go_wp2
      go_ret
      exact ⟨rfl, hb⟩
end Go.Proofs.Ythpcpminikmcbaa.og
namespace Go.Proofs.Ythpcpminikmcbaa.og
open Go.ChangeShapes Go.WideShapes Go.ChangeAt Go.RowKit
open vl hiding cB cFl cS cF cI cK cIt
set_option linter.unusedVariables false
set_option linter.unusedSimpArgs false
set_option maxHeartbeats 4000000 in
set_option maxRecDepth 100000 in
theorem own_ok (v : Vl) (cs : List Value) (w : World) (hv : VlC w v cs) (hsm : Small v) : Calls Try.prog 49 #[.agg cs.toArray] w fun e w' => e = .returned (.int .i64 (flw v)) ∧ Below w.heap.size w w' := by
  have hc0 := hv
  obtain ⟨kd, b, m, f, tx, ty, its, fls⟩ := v
  unfold VlC at hc0
  obtain ⟨ai, ni, ci, af, nf, cf, rfl, hI, hFl, hni, hnf, -, -, -, -, htx, -, -, -⟩ := hc0
  unfold Small at hsm
  obtain ⟨-, hlF, hf, -, -⟩ := hsm
  rw [FlsAt.len fls _ _ hFl] at hlF
  have htx : tx.size ≤ 9223372036854775807 := by unfold maxLen at htx; omega
  have hsf := storeF
  have N := hide (fun W (hb : Below w.heap.size w W) => names_ok fls af nf cf W (FlsAt.below hb _ _ _ hFl) hlF)
  clear hv hI hFl hni hnf hlF
  by_cases h3 : kd = 3
  · subst h3
    have HE := hide (show flw (.mk 3 b m f tx ty its fls) = if badF f = true then 6 else 0 by simp [flw])
    have NA := hide (fun W => isNaN_any f W hf)
    cases hn : nanF f with
    | true =>
      have hb : badF f = true := by unfold nanF at hn; unfold badF; simp at hn ⊢; omega
      have HE := hide (show flw (.mk 3 b m f tx ty its fls) = 6 by rw [unhide HE, if_pos hb])
      rw [hn] at NA
      clear hn hb N
      go_enter Try.func49, Try.ntmps49
      go_wp2_with fail
      refine (unhide NA _).mono ?_
      rintro e w1 ⟨rfl, rfl⟩
      go_wp2
      go_ret
      exact ⟨by rw [unhide HE]; try rfl, (Below.refl _ _).alloc (Nat.le_refl _) _⟩
    | false =>
      have IA := hide (fun W => isInf_ok f W hf hn)
      rw [hn] at NA
      clear hn N
      generalize badF f = B at *
      go_enter Try.func49, Try.ntmps49
      go_wp2_with fail
      refine (unhide NA _).mono ?_
      rintro e w1 ⟨rfl, rfl⟩
      go_wp2_with fail
      refine (unhide IA _).mono ?_
      rintro e w1 ⟨rfl, rfl⟩
      cases B with
      | true =>
        go_wp2
        go_ret
        exact ⟨by rw [unhide HE]; try rfl, (Below.refl _ _).alloc (Nat.le_refl _) _⟩
      | false =>
        go_wp2
        go_ret
        exact ⟨by rw [unhide HE]; try rfl, (Below.refl _ _).alloc (Nat.le_refl _) _⟩
  by_cases h4 : kd = 4
  · subst h4
    have HE := hide (show flw (.mk 4 b m f tx ty its fls) = if clnS tx = false then 1 else 0 by simp [flw])
    have U := hide (fun W => clean_ok tx W htx)
    generalize clnS tx = B at *
    clear N h3
    go_enter Try.func49, Try.ntmps49
    go_wp2_with fail
    refine (unhide U _).mono ?_
    rintro e w1 ⟨rfl, b1⟩
    have b2 : Below w.heap.size w w1 := ((Below.refl _ _).alloc (Nat.le_refl _) _).trans (b1.mono (by simp))
    clear U b1
    cases B with
    | true =>
      go_wp2
      go_ret
      exact ⟨by rw [unhide HE]; try rfl, b2⟩
    | false =>
      go_wp2
      go_ret
      exact ⟨by rw [unhide HE]; try rfl, b2⟩
  by_cases h6 : kd = 6
  · subst h6
    have HE := hide (show flw (.mk 6 b m f tx ty its fls) = nmF [] (fls.list.map (·.1)) by simp [flw])
    generalize nmF [] (fls.list.map (·.1)) = R at *
    clear h3 h4
    go_enter Try.func49, Try.ntmps49
    go_wp2_with fail
    refine (unhide N _ ((Below.refl _ _).alloc (Nat.le_refl _) _)).mono ?_
    rintro e w1 ⟨rfl, b1⟩
    have b2 : Below w.heap.size w w1 := ((Below.refl _ _).alloc (Nat.le_refl _) _).trans (b1.mono (by simp))
    clear N b1
    go_wp2
    go_ret
    exact ⟨by rw [unhide HE]; try rfl, b2⟩
  clear N
  by_cases ho : kd = 0 ∨ kd = 1 ∨ kd = 2 ∨ kd = 5
  · have HE := hide (show flw (.mk kd b m f tx ty its fls) = 0 by rw [flw, if_neg (by omega), if_neg h3, if_neg h4, if_neg h6])
    rcases ho with rfl | rfl | rfl | rfl
    all_goals
      clear h3 h4 h6
      go_enter Try.func49, Try.ntmps49
      go_wp2
      go_ret
      exact ⟨by rw [unhide HE]; try rfl, (Below.refl _ _).alloc (Nat.le_refl _) _⟩
  · have HE := hide (show flw (.mk kd b m f tx ty its fls) = 2 by rw [flw, if_pos (by omega)])
    have q0 : (kd == 0) = false := by simp; omega
    have q1 : (kd == 1) = false := by simp; omega
    have q2 : (kd == 2) = false := by simp; omega
    have q3 : (kd == 3) = false := by simp; omega
    have q4 : (kd == 4) = false := by simp; omega
    have q5 : (kd == 5) = false := by simp; omega
    have q6 : (kd == 6) = false := by simp; omega
    clear h3 h4 h6 ho
    go_enter Try.func49, Try.ntmps49
    go_wp2
    go_ret
    exact ⟨by rw [unhide HE]; try rfl, (Below.refl _ _).alloc (Nat.le_refl _) _⟩
end Go.Proofs.Ythpcpminikmcbaa.og
namespace Go.Proofs.Ythpcpminikmcbaa.og
open Go.ChangeShapes Go.WideShapes Go.ChangeAt Go.RowKit Go.Shelf
open vl hiding cB cFl cS cF cI cK cIt
open stp (St Pth St3)
attribute [local go_sem] Oper.semAt_some
set_option linter.unusedVariables false
set_option linter.unusedSimpArgs false
theorem wp_lgIn {F : Fence} {fn : Nat} {W w : World} {l : List St} {sl : Value} {ops : Array Oper} {rest : List Oper} {o : Oper} {a : Act} {Q : Exit → Act → World → Prop} (hG : GrS W.heap.size l sl w) (hB : Gb W w) (hgd : o.guard = none) (s x : Operand)
    (ho : o.op = .call { callee := .builtin .append, args := #[s, x], argTypes := #[29, 29] }) (hs : a.eval s = sl) (t : St) (N : Nat) (hN : N = w.heap.size) (hx : a.eval x = .slice (some ⟨N, 0, none⟩) 1 1) (hn : l.length + 1 ≤ 1048577)
    (h : ∀ aj nj cj w', GrS W.heap.size (l ++ [t]) (.slice aj nj cj) w' → Gb W w' → wpListIn F fn Try.prog ops Q rest (a.put o.dst (.slice aj nj cj)) w') : wpListIn F fn Try.prog ops Q (o :: rest) a (w.alloc (.cells (stC t).toArray 34)) := by
  obtain ⟨i, z, hi, hz, hsz, hb, hc⟩ := infoSz
  have hlt := hG.lt
  have hsB := hB.size
  subst hN
  obtain ⟨xss, hrow, hol⟩ := hG
  refine wpListIn_append_own _ hgd s x _ ho W.heap.size 34 i z 3 32 Try.underlying29 hi hz hsz hb hc (by omega) sl l.length xss.flatten hs (World.ownsRow.alloc hrow _) ⟨w.heap.size, 0, none⟩ 1 1 (stC t) hx rfl (fun j u hu => by
    rw [Addr.add_mid, Nat.zero_add, World.cell?_alloc_at _ _ _ _ rfl]; simpa using hu) (by simp [stC, Value.oneCell']) (by unfold maxLen; omega) (by omega) (by simp; omega) ?_
  intro v' w' hown hgr _
  have hG' : GrS W.heap.size (l ++ [t]) v' w' := ⟨xss ++ [stC t], by simpa using hown, P2.snoc (R := fun s cs => cs = stC s) rfl hol⟩
  obtain ⟨aj, cj, rfl⟩ := hG'.form
  exact h aj _ cj w' hG' (Below.trans hB (((Below.refl _ _).alloc hsB _).grown hgr (by simp; omega) (fun q hq => (hlt q hq).1)))
/-- tree.firstFault at a value -/
def FfAt (v : Vl) : Prop := ∀ (cs : List Value) (w : World), VlC w v cs → cnt v ≤ 1048576 → Calls Try.prog 24 #[.agg cs.toArray] w fun e w' => ∃ aj nj cj, e = .returned (.tuple #[.slice aj nj cj, .int .i64 (ffE v)]) ∧ GrS w.heap.size (ffP v).reverse (.slice aj nj cj) w' ∧ Below w.heap.size w w'
theorem GrV.kept' {E : Type} {R : E → List Value → Prop} {t : TypeId} {size B : Nat} {l : List E} {sl : Value} {w w' : World} {row : Option Nat} (h : GrV R t size B l sl w) (hg : w.grownBy w' row) (hr : ∀ r, row = some r → ∃ o : Obj, w.heap[r]? = some o ∧ o.isCells = false) : GrV R t size B l sl w' := by
  refine h.kept hg ?_
  obtain ⟨xss, h1, -⟩ := h
  rcases h1.2 with ⟨rfl, -⟩ | ⟨g, cap, cur, rfl, -, hh, -⟩
  · exact .inl rfl
  · refine .inr (fun e => ?_)
    obtain ⟨o, ho, hc⟩ := hr g e.symm
    rw [hh] at ho
    cases ho
    cases hc
theorem ff_results (tmps : Array Value) (W : World) (B1 B2 : Nat) (aj : Option Addr) (nj cj : Nat) (x : Int) (t1 : tmps[2]?.getD undef = .pointer (some ⟨B1, 0, none⟩)) (t2 : tmps[3]?.getD undef = .pointer (some ⟨B2, 0, none⟩)) (c1 : W.cell? ⟨B1, 0, none⟩ = some (.slice aj nj cj)) (c2 : W.cell? ⟨B2, 0, none⟩ = some (.int .i64 x)) :
    (results Try.f24 tmps).run Try.prog W = .ok (.tuple #[.slice aj nj cj, .int .i64 x]) W := by
  simp [results, Try.f24, go_sem, t1, t2, c1, c2]
set_option maxRecDepth 100000 in
set_option maxHeartbeats 4000000 in
theorem ff_step (v : Vl) (hsm : Small v) (ih : ∀ p ∈ kids v, FfAt p.2) : FfAt v := by
  intro cs w hv hcn
  have OW := hide (fun W (hb : Below w.heap.size w W) => own_ok v cs W (VlC.below hb _ _ hv) hsm)
  have hc0 := hv
  obtain ⟨kd, b, m, f, tx, ty, its, fls⟩ := v
  unfold VlC at hc0
  obtain ⟨ai, ni, ci, af, nf, cf, rfl, -⟩ := hc0
  have hsf := storeF
  refine (callsIn_wide (n := 8)).1 ?_
  refine callsIn_of_wp_marks Try.func24 rfl trivial ?_ rfl
  simp only [Try.ntmps24, List.size_toArray, List.length_cons, List.length_nil, Nat.reduceAdd, Nat.reduceSub, Array.replicate_succ, Array.replicate_zero, List.push_toArray, List.append_toArray, List.nil_append, List.cons_append]
  gi_wp2_with fail
  obtain ⟨W3, hW3⟩ : ∃ W3, W3 = ((w.alloc (.cells #[Value.int IntKind.i64 kd, Value.bool b, Value.int IntKind.i64 m, Value.float FloatKind.f64 f, Value.string tx, Value.string ty, Value.slice ai ni ci, Value.slice af nf cf] 27)).alloc (.cells #[.slice none 0 0] 29)).alloc (.cells #[.int .i64 0] 30) := ⟨_, rfl⟩
  have hB3 : Below w.heap.size w W3 := by rw [hW3]; exact (((Below.refl _ _).alloc (Nat.le_refl _) _).alloc (by simp) _).alloc (by simp; omega) _
  have s3 : W3.heap.size = w.heap.size + 3 := by rw [hW3]; simp
  have q1 : Boxed W3 (w.heap.size + 1) 29 (.slice none 0 0) := by rw [hW3]; have := (Boxed.new (w.alloc (.cells #[Value.int IntKind.i64 kd, Value.bool b, Value.int IntKind.i64 m, Value.float FloatKind.f64 f, Value.string tx, Value.string ty, Value.slice ai ni ci, Value.slice af nf cf] 27)) 29 (.slice none 0 0)).alloc (.cells #[.int .i64 0] 30); simpa using this
  have q2 : Boxed W3 (w.heap.size + 1 + 1) 30 (.int .i64 0) := by rw [hW3]; have := (Boxed.new ((w.alloc (.cells #[Value.int IntKind.i64 kd, Value.bool b, Value.int IntKind.i64 m, Value.float FloatKind.f64 f, Value.string tx, Value.string ty, Value.slice ai ni ci, Value.slice af nf cf] 27)).alloc (.cells #[.slice none 0 0] 29)) 30 (.int .i64 0)); simpa using this
  have rV : W3.rangeAt w.heap.size 0 [Value.int IntKind.i64 kd, Value.bool b, Value.int IntKind.i64 m, Value.float FloatKind.f64 f, Value.string tx, Value.string ty, Value.slice ai ni ci, Value.slice af nf cf] := fun j x hx => by
    have h0 : (w.alloc (.cells #[Value.int IntKind.i64 kd, Value.bool b, Value.int IntKind.i64 m, Value.float FloatKind.f64 f, Value.string tx, Value.string ty, Value.slice ai ni ci, Value.slice af nf cf] 27)).cell? ⟨w.heap.size, j, none⟩ = some x := by rw [World.cell?_alloc_at _ _ _ _ rfl]; simpa using hx
    have hb : Below (w.heap.size + 1) (w.alloc (.cells #[Value.int IntKind.i64 kd, Value.bool b, Value.int IntKind.i64 m, Value.float FloatKind.f64 f, Value.string tx, Value.string ty, Value.slice ai ni ci, Value.slice af nf cf] 27)) W3 := by rw [hW3]; exact ((Below.refl _ _).alloc (by simp) _).alloc (by simp) _
    rw [Nat.zero_add]
    exact (hb.cell (p := ⟨w.heap.size, j, none⟩) (Nat.lt_succ_self _)).trans h0
  rw [← hW3]
  clear hW3
  refine ⟨trivial, ?_⟩
  gi_at_call 49
  refine (callsIn_wide.2 (unhide OW W3 hB3)).mono ?_
  rintro e w1 ⟨rfl, b1⟩
  have hB1 : Below w.heap.size w w1 := hB3.trans (b1.mono (by omega))
  have s1 : w.heap.size + 3 ≤ w1.heap.size := by have := b1.size; omega
  have q1 : Boxed w1 (w.heap.size + 1) 29 (.slice none 0 0) := (b1.block _ q1.lt).trans q1
  have q2 : Boxed w1 (w.heap.size + 1 + 1) 30 (.int .i64 0) := (b1.block _ q2.lt).trans q2
  have rV1 : w1.rangeAt w.heap.size 0 [Value.int IntKind.i64 kd, Value.bool b, Value.int IntKind.i64 m, Value.float FloatKind.f64 f, Value.string tx, Value.string ty, Value.slice ai ni ci, Value.slice af nf cf] := fun j x hx => (b1.cell (p := ⟨w.heap.size, 0 + j, none⟩) (show w.heap.size < W3.heap.size by omega)).trans (rV j x hx)
  clear OW b1 rV hB3 s3
  have c1 := q1.cell
  have c2 := q2.cell
  have f1 := q1.frozen
  have f2 := q2.frozen
  by_cases hbad : flw (.mk kd b m f tx ty its fls) = 0
  · rw [hbad]
    have HB := hide hbad
    clear hbad
    obtain ⟨z0, z1, z2, z3, z4, z5, z6, z7⟩ := Row8.eight rV1
    simp only [Nat.zero_add] at z1 z2 z3 z4 z5 z6 z7
    gi_wp2_with (refine ⟨trivial, ?_⟩; gi_at_call 37; refine (children_in Fence.wide _ trivial rfl _ _).mono ?_; rintro e w' ⟨rfl, rfl⟩)
    obtain ⟨W0, hW0⟩ : ∃ W0, W0 = w1.alloc (.cells #[Value.int IntKind.i64 kd, Value.bool b, Value.int IntKind.i64 m, Value.float FloatKind.f64 f, Value.string tx, Value.string ty, Value.slice ai ni ci, Value.slice af nf cf] 27) := ⟨_, rfl⟩
    have hB0 : Below w.heap.size w W0 := by rw [hW0]; exact hB1.alloc hB1.size _
    have s0 : W0.heap.size = w1.heap.size + 1 := by rw [hW0]; simp
    have q1 : Boxed W0 (w.heap.size + 1) 29 (.slice none 0 0) := by rw [hW0]; exact q1.alloc _
    have q2 : Boxed W0 (w.heap.size + 1 + 1) 30 (.int .i64 0) := by rw [hW0]; exact q2.alloc _
    have rV : W0.rangeAt w1.heap.size 0 [Value.int IntKind.i64 kd, Value.bool b, Value.int IntKind.i64 m, Value.float FloatKind.f64 f, Value.string tx, Value.string ty, Value.slice ai ni ci, Value.slice af nf cf] := fun j x hx => by rw [hW0, Nat.zero_add, World.cell?_alloc_at _ _ _ _ rfl]; simpa using hx
    rw [← hW0]
    clear hW0 z0 z1 z2 z3 z4 z5 z6 z7 c1 c2 f1 f2 rV1
    have hsf2 := hide hsf
    clear hsf
    refine wpIn_rangeFunc_ownH (α := Kid w (kids (.mk kd b m f tx ty its fls))) rfl (by omega) (gf := 71) (lb := #[.pointer (some ⟨w1.heap.size, 0, none⟩)]) rfl trivial (enters_of Try.func71 (by kernel_rfl) rfl)
      (kids_stops Fence.wide (8 - 1) trivial rfl (by omega) w1.heap.size w (.mk kd b m f tx ty its fls) _ hv hsm W0 hB0 (by omega) rV) belowK_t (belowK_b (by omega)) (Below.refl _ _) (fun _ => rfl)
      (fun pre W => (Boxed W (w.heap.size + 1) 29 (.slice none 0 0) ∧ Boxed W (w.heap.size + 1 + 1) 30 (.int .i64 0)) ∧ Below w.heap.size w W ∧ ∀ x ∈ pre.map Kid.sv, ffE x.2 = 0)
      (fun c pre W => c = .ret ∧ ∃ (aj : Option Addr) (nj cj : Nat) (p : List (St × Vl)) (q : St × Vl), Boxed W (w.heap.size + 1) 29 (.slice aj nj cj) ∧ Boxed W (w.heap.size + 1 + 1) 30 (.int .i64 (ffE q.2)) ∧ GrS w.heap.size ((ffP q.2).reverse ++ [q.1]) (.slice aj nj cj) W ∧ Below w.heap.size w W ∧ pre.map Kid.sv = p ++ [q] ∧ (∀ y ∈ p, ffE y.2 = 0) ∧ ffE q.2 ≠ 0)
      (fun s X Y row hs hg hr => ⟨⟨boxed_own (β := Unit) (w.heap.size + 1) 29 (fun _ => .slice none 0 0) () X Y row hs.1.1 hg (fun r e => (hr r e).2), boxed_own (β := Unit) (w.heap.size + 1 + 1) 30 (fun _ => .int .i64 0) () X Y row hs.1.2 hg (fun r e => (hr r e).2)⟩, ownFrom_below (β := Unit) (Nat.le_refl _) hB0.size () X Y row hs.2.1 hg hr, hs.2.2⟩)
      (fun c s X Y row hs hg hr => by
        obtain ⟨rfl, aj, nj, cj, p, q, h1, h2, h3, h4, h5⟩ := hs
        exact ⟨rfl, aj, nj, cj, p, q, boxed_own (β := Unit) (w.heap.size + 1) 29 (fun _ => .slice aj nj cj) () X Y row h1 hg (fun r e => (hr r e).2), boxed_own (β := Unit) (w.heap.size + 1 + 1) 30 (fun _ => .int .i64 (ffE q.2)) () X Y row h2 hg (fun r e => (hr r e).2), h3.kept' hg (fun r e => (hr r e).2), ownFrom_below (β := Unit) (Nat.le_refl _) hB0.size () X Y row h4 hg hr, h5⟩)
      ⟨⟨q1, q2⟩, hB0, by simp⟩
      (fun x a' W => ∃ Bs Bx, Bs < W.heap.size ∧ Bx < W.heap.size ∧ W.rangeAt Bs 0 (stC x.1.1) ∧ W.rangeAt Bx 0 x.1.2.2 ∧ a' = { tmps := #[.agg #[Value.int IntKind.i64 kd, Value.bool b, Value.int IntKind.i64 m, Value.float FloatKind.f64 f, Value.string tx, Value.string ty, Value.slice ai ni ci, Value.slice af nf cf], .pointer (some ⟨w.heap.size, 0, none⟩), .pointer (some ⟨w.heap.size + 1, 0, none⟩), .pointer (some ⟨w.heap.size + 1 + 1, 0, none⟩), .int .i64 0, .pointer (some ⟨Bs, 0, none⟩), .pointer (some ⟨Bx, 0, none⟩), undef, undef, .agg #[Value.int IntKind.i64 kd, Value.bool b, Value.int IntKind.i64 m, Value.float FloatKind.f64 f, Value.string tx, Value.string ty, Value.slice ai ni ci, Value.slice af nf cf], .int .i64 0, .int .i64 0, .bool false, undef, .agg #[Value.int IntKind.i64 kd, Value.bool b, Value.int IntKind.i64 m, Value.float FloatKind.f64 f, Value.string tx, Value.string ty, Value.slice ai ni ci, Value.slice af nf cf], .func (.func 71) #[] #[.pointer (some ⟨w1.heap.size, 0, none⟩)], .agg #[.string x.1.1.nm, .int .i64 x.1.1.ix, .bool x.1.1.it], .agg x.1.2.2.toArray, undef, undef, undef, undef, undef, undef, undef, undef, undef, undef, undef, undef], defers := [] })
      (fun x a' _ X Y row hs hg hr => by obtain ⟨Bs, Bx, h2, h3, h4, h5, h6⟩ := hs; exact ⟨Bs, Bx, Nat.lt_of_lt_of_le h2 hg.size, Nat.lt_of_lt_of_le h3 hg.size, fun j u hu => cell_kept (h4 j u hu) hg (fun r e => (hr r e).2), fun j u hu => cell_kept (h5 j u hu) hg (fun r e => (hr r e).2), h6⟩)
      ?assign ?body ?done ?stop
    case assign =>
      rintro l pre x W K ⟨⟨p1, p2⟩, hBW, hz⟩ hK
      obtain ⟨⟨s, u, us⟩, hu, hm⟩ := x
      have hu' : VlC w u us := hu
      obtain ⟨ukd, ub, um, uf, utx, uty, uits, ufls⟩ := u
      unfold VlC at hu'
      obtain ⟨uai, uni, uci, uaf, unf, ucf, rfl, -⟩ := hu'
      obtain ⟨nm, ix, it⟩ := s
      unfold Kid.enc
      have hsf := unhide hsf2
      clear ih hv
      gi_wp2
      have sB := hBW.size
      refine hK _ _ (((KeepsOthers.alloc _ _).from _).trans ((KeepsOthers.alloc _ _).from _)) (((Below.refl _ W).alloc sB _).alloc (by simp; omega) _) ⟨⟨(p1.alloc _).alloc _, (p2.alloc _).alloc _⟩, (hBW.alloc sB _).alloc (by simp; omega) _, hz⟩ ⟨W.heap.size, W.heap.size + 1, by simp; omega, by simp, fun j x hx => ?_, fun j x hx => ?_, rfl⟩
      · rw [Nat.zero_add]
        refine (((Below.refl (W.heap.size + 1) (W.alloc _)).alloc (by simp) _).cell (p := ⟨W.heap.size, j, none⟩) (Nat.lt_succ_self _)).trans ?_
        rw [World.cell?_alloc_at _ _ _ _ rfl]
        simpa [stC] using hx
      · rw [Nat.zero_add, World.cell?_alloc_at _ _ _ _ (by simp)]
        simpa using hx
    case body =>
      rintro l pre x a' W hl ⟨r, hr⟩ ⟨⟨p1, p2⟩, hBW, hz⟩ ⟨Bs, Bx, hBs, hBl, hrs, hrow, rfl⟩ hlt
      obtain ⟨⟨s, u, us⟩, hu, hm⟩ := x
      have hcu : cnt u ≤ 1048576 := by
        obtain ⟨j, hj, e⟩ := List.mem_iff_getElem.1 hm
        have := cnt_kid (v := .mk kd b m f tx ty its fls) (k := j) (q := (s, u)) (by rw [← e]; exact List.getElem?_eq_getElem hj)
        simp only at this
        omega
      have IH := hide (ih (s, u) hm us W (VlC.below hBW _ _ hu) hcu)
      have hpl := hide (show (ffP u).length < cnt u from ffP_len u)
      have HPre := hide (show (pre ++ [⟨(s, u, us), hu, hm⟩] : List (Kid w (kids (.mk kd b m f tx ty its fls)))).map Kid.sv = pre.map Kid.sv ++ [(s, u)] by rw [List.map_append]; rfl)
      generalize (pre ++ [⟨(s, u, us), hu, hm⟩] : List (Kid w (kids (.mk kd b m f tx ty its fls)))) = pre' at *
      have hu' : VlC w u us := hu
      have HZ := hide hz
      have hrs : W.rangeAt Bs 0 (stC s) := hrs
      have hrow : W.rangeAt Bx 0 us := hrow
      clear hlt ih hv hz
      generalize hE : ffE u = E at *
      generalize hP : ffP u = Pu at *
      have HE := hide hE
      have HP := hide hP
      clear hE hP
      obtain ⟨ukd, ub, um, uf, utx, uty, uits, ufls⟩ := u
      unfold VlC at hu'
      obtain ⟨uai, uni, uci, uaf, unf, ucf, rfl, -⟩ := hu'
      obtain ⟨nm, ix, it⟩ := s
      obtain ⟨z0, z1, z2, z3, z4, z5, z6, z7⟩ := Row8.eight hrow
      simp only [Nat.zero_add] at z1 z2 z3 z4 z5 z6 z7
      clear hrow
      gi_wp2_with fail
      refine ⟨trivial, ?_⟩
      gi_at_call 24
      refine (CallsIn.inRound l (callsIn_wide.2 (unhide IH))).mono ?_
      rintro e w2 ⟨aj, nj, cj, rfl, hG, b2⟩
      clear z0 z1 z2 z3 z4 z5 z6 z7 IH
      by_cases h0 : E = 0
      · subst h0
        gi_wp2
        refine ⟨keepsFrom_below b2, b2.mono hBW.size, ⟨(b2.block _ p1.lt).trans p1, (b2.block _ p2.lt).trans p2⟩, hBW.trans (b2.mono hBW.size), ?_⟩
        rw [unhide HPre]
        intro y hy
        rcases List.mem_append.1 hy with hy | hy
        · exact unhide HZ y hy
        · rw [List.mem_singleton.1 hy]; exact unhide HE
      · have hE0 : (E != 0) = true := by simpa using h0
        have k0 : w2.cell? ⟨Bs, 0, none⟩ = some (.string nm) := (b2.cell (p := ⟨Bs, 0, none⟩) hBs).trans (hrs 0 _ rfl)
        have k1 : w2.cell? ⟨Bs, 1, none⟩ = some (.int .i64 ix) := (b2.cell (p := ⟨Bs, 1, none⟩) hBs).trans (hrs 1 _ rfl)
        have k2 : w2.cell? ⟨Bs, 2, none⟩ = some (.bool it) := (b2.cell (p := ⟨Bs, 2, none⟩) hBs).trans (hrs 2 _ rfl)
        have l1 := p1.lt
        have l2 := p2.lt
        have P1 := hide p1
        have P2 := hide p2
        have HG := hide hG
        have B2 := hide b2
        have hln := hide (show Pu.reverse.length + 1 ≤ 1048577 by have := unhide hpl; simp; omega)
        have H0 := hide h0
        clear p1 p2 hG b2 hrs h0
        gi_wp2_with (refine wp_lgIn (W := W) (unhide HG) (unhide B2) rfl _ _ rfl rfl ⟨nm, ix, it⟩ _ rfl rfl (unhide hln) ?_; intro a3 n3 c3 w3 hG3 b3; have c1 : w3.cell? ⟨w.heap.size + 1, 0, none⟩ = some (.slice none 0 0) := (b3.cell (p := ⟨w.heap.size + 1, 0, none⟩) l1).trans (unhide P1).cell; have c2 : w3.cell? ⟨w.heap.size + 1 + 1, 0, none⟩ = some (.int .i64 0) := (b3.cell (p := ⟨w.heap.size + 1 + 1, 0, none⟩) l2).trans (unhide P2).cell; have f1 : w3.frozen? ⟨w.heap.size + 1, 0, none⟩ = false := (b3.frozen (p := ⟨w.heap.size + 1, 0, none⟩) l1).trans (unhide P1).frozen; have f2 : w3.frozen? ⟨w.heap.size + 1 + 1, 0, none⟩ = false := (b3.frozen (p := ⟨w.heap.size + 1 + 1, 0, none⟩) l2).trans (unhide P2).frozen; have HG3 := hide hG3; have B3 := hide b3; clear hG3 b3)
        have hB3 := unhide B3
        have x1 : Boxed w3 (w.heap.size + 1) 29 (.slice none 0 0) := (hB3.block _ l1).trans (unhide P1)
        have x2 : Boxed w3 (w.heap.size + 1 + 1) 30 (.int .i64 0) := (hB3.block _ l2).trans (unhide P2)
        have hW3 : Below w.heap.size w w3 := hBW.trans (hB3.mono hBW.size)
        have hgl := (unhide HG3).lt
        have hg1 := GrV.kept (unhide HG3) (grownBy_setCell' w3 (w.heap.size + 1) (.slice a3 n3 c3)) (.inr (fun e => by have := (hgl _ e).1; omega))
        have hg2 := GrV.kept hg1 (grownBy_setCell' (w3.setCell ⟨w.heap.size + 1, 0, none⟩ (.slice a3 n3 c3)) (w.heap.size + 1 + 1) (.int .i64 E)) (.inr (fun e => by have := (hgl _ e).1; omega))
        refine ⟨((keepsFrom_below hB3).trans ((KeepsOthers.setCell _ _ _).from _)).trans ((KeepsOthers.setCell _ _ _).from _), rfl, a3, n3, c3, pre.map Kid.sv, (⟨nm, ix, it⟩, .mk ukd ub um uf utx uty uits ufls), (x1.set _).other (by omega) _, ?_, ?_, ?_, unhide HPre, unhide HZ, ?_⟩
        · show Boxed _ _ _ (.int .i64 (ffE _))
          rw [unhide HE]
          exact (x2.other (by omega) _).set _
        · show GrS _ ((ffP _).reverse ++ _) _ _
          rw [unhide HP]
          exact GrS.older hg2 hBW.size
        · exact (hW3.setCell (p := ⟨w.heap.size + 1, 0, none⟩) (Nat.le_succ _) _).setCell (p := ⟨w.heap.size + 1 + 1, 0, none⟩) (by show w.heap.size ≤ w.heap.size + 1 + 1; omega) _
        · show ffE _ ≠ 0
          rw [unhide HE]
          exact unhide H0
    case done =>
      rintro D xs W hD hxs ⟨⟨p1, p2⟩, hBW, hz⟩ hK
      have c1 := p1.cell
      have c2 := p2.cell
      have f1 := p1.frozen
      have f2 := p2.frozen
      obtain ⟨e1, e2⟩ := ff_done (unhide HB) (fun q hq => hz q (by rw [hxs]; exact hq))
      have E1 := hide e1
      have E2 := hide e2
      have P1 := hide p1
      have P2 := hide p2
      have hn1 : w.heap.size + 1 ≠ D := by have := q1.lt; omega
      have hn2 : w.heap.size + 1 + 1 ≠ D := by have := q2.lt; omega
      clear e1 e2 p1 p2 hz hxs
      gi_wp2
      have hK' := (KeepsOthers.setCell (W.setCell ⟨w.heap.size + 1, 0, none⟩ (.slice none 0 0)) ⟨w.heap.size + 1 + 1, 0, none⟩ (.int .i64 0)).same D _ ((KeepsOthers.setCell W ⟨w.heap.size + 1, 0, none⟩ (.slice none 0 0)).same D _ hK rfl) rfl
      refine ⟨by simp, .inl ⟨_, _, rfl, run_takeDeferred hK', ?_⟩⟩
      refine ⟨_, ff_results _ _ (w.heap.size + 1) (w.heap.size + 1 + 1) none 0 0 0 rfl rfl ((((unhide P1).set _).other (by omega) _).kept (grownBy_putObj' _ D _) (fun e => hn1 (by cases e; rfl))).cell ((((unhide P2).other (by omega) _).set _).kept (grownBy_putObj' _ D _) (fun e => hn2 (by cases e; rfl))).cell, none, 0, 0, by rw [unhide E2], by rw [unhide E1]; exact GrV.nil, ?_⟩
      exact ((hBW.setCell (p := ⟨w.heap.size + 1, 0, none⟩) (Nat.le_succ _) _).setCell (p := ⟨w.heap.size + 1 + 1, 0, none⟩) (by show w.heap.size ≤ w.heap.size + 1 + 1; omega) _).trans (belowK_b (w := w) (Nat.le_refl _) _ D _ _ (by have := hB0.size; omega) hK' rfl rfl)
    case stop =>
      rintro D c pre W hD ⟨k, hk, hpre⟩ ⟨rfl, aj, nj, cj, p, q, h1, h2, h3, h4, h5, h6, h7⟩ hK
      obtain ⟨e1, e2⟩ := ff_stop (unhide HB) (h5.symm.trans hpre) h6 h7
      have hn1 : w.heap.size + 1 ≠ D := by have := q1.lt; omega
      have hn2 : w.heap.size + 1 + 1 ≠ D := by have := q2.lt; omega
      gi_wp2
      refine ⟨by simp, .inl ⟨_, _, rfl, run_takeDeferred hK, ?_⟩⟩
      refine ⟨_, ff_results _ _ (w.heap.size + 1) (w.heap.size + 1 + 1) aj nj cj (ffE q.2) rfl rfl (h1.kept (grownBy_putObj' _ D _) (fun e => hn1 (by cases e; rfl))).cell (h2.kept (grownBy_putObj' _ D _) (fun e => hn2 (by cases e; rfl))).cell, aj, nj, cj, by rw [e2], ?_, ?_⟩
      · rw [e1, List.reverse_cons]
        exact h3.kept' (grownBy_putObj' _ D _) (fun r e => by cases e; exact ⟨_, hK, rfl⟩)
      · exact h4.trans (belowK_b (w := w) (Nat.le_refl _) _ D _ _ (by have := hB0.size; omega) hK rfl rfl)
  · obtain ⟨e1, e2⟩ := ff_own hbad
    generalize flw (.mk kd b m f tx ty its fls) = R at *
    have E1 := hide e1
    have E2 := hide e2
    have hR : (R != 0) = true := by simpa using hbad
    have Q1 := hide q1
    have Q2 := hide q2
    have S1 := hide s1
    clear e1 e2 hsm hbad hcn rV1 q1 q2 ih s1
    gi_wp2
    refine ⟨_, ff_results _ _ (w.heap.size + 1) (w.heap.size + 1 + 1) none 0 0 R rfl rfl (((unhide Q1).set _).other (by omega) _).cell (((unhide Q2).other (by omega) _).set _).cell, none, 0, 0, by rw [unhide E2], by rw [unhide E1]; exact GrV.nil, ?_⟩
    exact (hB1.setCell (p := ⟨w.heap.size + 1, 0, none⟩) (Nat.le_succ _) _).setCell (p := ⟨w.heap.size + 1 + 1, 0, none⟩) (by show w.heap.size ≤ w.heap.size + 1 + 1; omega) _
theorem ff_ok : ∀ v : Vl, Small v → FfAt v := by
  refine Vl.all ?_
  intro kd b n f tx ty its fls hI hF hsm
  have hs := hsm
  unfold Small at hs
  obtain ⟨-, -, -, hsI, hsF⟩ := hs
  exact ff_step _ hsm (mem_kids (P := FfAt) (fun v hv => hI v hv (hsI.all v hv)) (fun q hq => hF q hq (hsF.all q hq)))
end Go.Proofs.Ythpcpminikmcbaa.og
namespace Go.Proofs.Ythpcpminikmcbaa.og
open Go.ChangeShapes Go.WideShapes Go.ChangeAt Go.RowKit
open vl hiding cB cFl cS cF cI cK cIt
open stp (St Pth St3)
set_option linter.unusedVariables false
set_option linter.unusedSimpArgs false
/-- what stands at place k when i have been exchanged from both ends -/
def rvk (l : List St) (i k : Nat) : Option St := if k < i ∨ l.length - 1 - i < k then l[l.length - 1 - k]? else l[k]?
/-- the cells while a path is turned round -/
def RvS (l : List St) (g off i : Nat) (w : World) : Prop := ∀ (k : Nat) (s : St), k < l.length → rvk l i k = some s → w.rangeAt g (off + k * 3) (stC s)
theorem there_of {w : World} {b o : Nat} {x : St} (h : w.rangeAt b o (stC x)) (hf : ∀ j, w.frozen? ⟨b, j, none⟩ = false) : w.there b o 3 := fun j hj => by
  rw [h j _ (List.getElem?_eq_getElem (show j < (stC x).length from hj))]; exact ⟨rfl, hf _⟩
theorem rv_swap {l : List St} {g off i j : Nat} {w : World} {x y : St} (h : RvS l g off i w) (hf : ∀ j, w.frozen? ⟨g, j, none⟩ = false) (hj : j = l.length - 1 - i) (hij : i < j) (hjn : j < l.length) (hx : l[i]? = some x) (hy : l[j]? = some y) : RvS l g off (i + 1) ((w.setCells g (off + i * 3) (stC y)).setCells g (off + j * 3) (stC x)) := by
  have rx := h i x (by omega) (by unfold rvk; rw [if_neg (by omega)]; exact hx)
  have ry := h j y (by omega) (by unfold rvk; rw [if_neg (by omega)]; exact hy)
  have l3 : ∀ s : St, (stC s).length = 3 := fun s => rfl
  intro k s hk hs
  by_cases h1 : k = i
  · subst h1
    have : s = y := by
      unfold rvk at hs
      rw [if_pos (by omega), ← hj, hy] at hs
      exact (Option.some.inj hs).symm
    subst this
    exact World.rangeAt_setCells_apart (World.rangeAt_setCells_same w g _ (stC s) (there_of rx hf)) _ _ _ (.inr (.inl (by rw [l3]; omega)))
  by_cases h2 : k = j
  · subst h2
    have : s = x := by
      unfold rvk at hs
      rw [if_pos (by omega), show l.length - 1 - k = i by omega, hx] at hs
      exact (Option.some.inj hs).symm
    subst this
    exact World.rangeAt_setCells_same _ g _ (stC s) (World.there_setCells (there_of ry hf) _ _ _)
  · have h3 := h k s hk (by
      rw [← hs]
      unfold rvk
      by_cases hc : k < i ∨ l.length - 1 - i < k
      · rw [if_pos hc, if_pos (by omega)]
      · rw [if_neg hc, if_neg (by omega)])
    refine World.rangeAt_setCells_apart (World.rangeAt_setCells_apart h3 _ _ _ (.inr ?_)) _ _ _ (.inr ?_)
    · rw [l3, l3]; omega
    · rw [l3, l3]; omega
theorem set3 (w : World) (g o : Nat) (a b c : Value) : ((w.setCell ⟨g, o, none⟩ a).setCell ⟨g, o + 1, none⟩ b).setCell ⟨g, o + 2, none⟩ c = w.setCells g o [a, b, c] := rfl
theorem rv_world {l : List St} {g off i j B : Nat} {w wr : World} {nx ny : ByteArray} {ix iy : Int} {tx ty : Bool} (h : RvS l g off i wr) (hf : ∀ j, wr.frozen? ⟨g, j, none⟩ = false) (hj : j = l.length - 1 - i) (hij : i < j) (hjn : j < l.length) (hx : l[i]? = some ⟨nx, ix, tx⟩) (hy : l[j]? = some ⟨ny, iy, ty⟩) (hb : Below B w wr) (hB : B ≤ g) :
    ∃ X, ((((((wr.setCell ⟨g, off + i * 3, none⟩ (.string ny)).setCell ⟨g, off + i * 3 + 1, none⟩ (.int .i64 iy)).setCell ⟨g, off + i * 3 + 2, none⟩ (.bool ty)).setCell ⟨g, off + j * 3, none⟩ (.string nx)).setCell ⟨g, off + j * 3 + 1, none⟩ (.int .i64 ix)).setCell ⟨g, off + j * 3 + 2, none⟩ (.bool tx)).drew = X ∧ RvS l g off (i + 1) X ∧ (∀ j, X.frozen? ⟨g, j, none⟩ = false) ∧ Below B w X := by
  rw [set3, set3, show [Value.string ny, .int .i64 iy, .bool ty] = stC ⟨ny, iy, ty⟩ from rfl, show [Value.string nx, .int .i64 ix, .bool tx] = stC ⟨nx, ix, tx⟩ from rfl]
  have h1 := rv_swap h hf hj hij hjn hx hy
  have h2 : ∀ k, World.frozen? ((wr.setCells g (off + i * 3) (stC ⟨ny, iy, ty⟩)).setCells g (off + j * 3) (stC ⟨nx, ix, tx⟩)) ⟨g, k, none⟩ = false := fun k => by
    rw [World.frozen?_setCells, World.frozen?_setCells]; exact hf k
  have h3 := below_setCells _ (stC ⟨nx, ix, tx⟩) (off + j * 3) _ (below_setCells _ (stC ⟨ny, iy, ty⟩) (off + i * 3) _ hb hB) hB
  generalize (wr.setCells g (off + i * 3) (stC ⟨ny, iy, ty⟩)).setCells g (off + j * 3) (stC ⟨nx, ix, tx⟩) = Y at *
  exact ⟨_, rfl, h1, h2, h3.drew⟩
set_option maxHeartbeats 4000000 in
set_option maxRecDepth 100000 in
theorem rev_ok (l : List St) (g off c : Nat) (w : World) (h : RvS l g off 0 w) (hf : ∀ j, w.frozen? ⟨g, j, none⟩ = false) (hn : l.length ≤ 1048577) (B : Nat) (hB : B ≤ g) :
    Calls Try.prog 25 #[.slice (some ⟨g, off, none⟩) l.length c] w fun e w' => e = .returned (.tuple #[]) ∧ RvS l g off l.length w' ∧ Below B w w' := by
  obtain ⟨n, hnl⟩ : ∃ n, n = l.length := ⟨_, rfl⟩
  rw [← hnl] at hn ⊢
  have HN := hide hnl
  have H := hide h
  have HF := hide hf
  clear hnl h hf
  go_enter Try.func25, Try.ntmps25
  go_wp2
  go_loopw [2, 3] (fun vi vj wr => ∃ i : Nat, 2 * i ≤ n + 1 ∧ vi = .int .i64 i ∧ vj = .int .i64 ((n : Int) - 1 - i) ∧ vl.Hid (RvS l g off i wr) ∧ vl.Hid (∀ j, wr.frozen? ⟨g, j, none⟩ = false) ∧ Below B w wr) (fun vi _ _ => n - (intOf vi).toNat)
  case atStart => exact ⟨0, by omega, rfl, by simp, H, HF, Below.refl _ _⟩
  case round =>
    obtain ⟨i, hi, rfl, rfl, HR, HZ, hb⟩ := hrel
    by_cases hlt : 2 * i + 1 < n
    · obtain ⟨j, hj⟩ : ∃ j : Nat, j = n - 1 - i := ⟨_, rfl⟩
      have hij : i < j := by omega
      have hjn : j < n := by omega
      have ej : ((n : Int) - 1 - i) = (j : Int) := by omega
      rw [ej]
      obtain ⟨x, hx⟩ : ∃ x, l[i]? = some x := ⟨_, List.getElem?_eq_getElem (by rw [← unhide HN]; omega)⟩
      obtain ⟨y, hy⟩ : ∃ y, l[j]? = some y := ⟨_, List.getElem?_eq_getElem (by rw [← unhide HN]; omega)⟩
      have rx := unhide HR i x (by rw [← unhide HN]; omega) (by unfold rvk; rw [← unhide HN, if_neg (by omega)]; exact hx)
      have ry := unhide HR j y (by rw [← unhide HN]; omega) (by unfold rvk; rw [← unhide HN, if_neg (by omega)]; exact hy)
      have HX := hide hx
      have HY := hide hy
      have HJ := hide hj
      obtain ⟨nx, ix, tx⟩ := x
      obtain ⟨ny, iy, ty⟩ := y
      have x0 : wr.cell? ⟨g, off + i * 3, none⟩ = some (.string nx) := rx 0 _ rfl
      have x1 : wr.cell? ⟨g, off + i * 3 + 1, none⟩ = some (.int .i64 ix) := rx 1 _ rfl
      have x2 : wr.cell? ⟨g, off + i * 3 + 2, none⟩ = some (.bool tx) := rx 2 _ rfl
      have y0 : wr.cell? ⟨g, off + j * 3, none⟩ = some (.string ny) := ry 0 _ rfl
      have y1 : wr.cell? ⟨g, off + j * 3 + 1, none⟩ = some (.int .i64 iy) := ry 1 _ rfl
      have y2 : wr.cell? ⟨g, off + j * 3 + 2, none⟩ = some (.bool ty) := ry 2 _ rfl
      have hfz := unhide HZ
      have u0 := hfz (off + i * 3)
      have u1 := hfz (off + i * 3 + 1)
      have u2 := hfz (off + i * 3 + 2)
      have v0 := hfz (off + j * 3)
      have v1 := hfz (off + j * 3 + 1)
      have v2 := hfz (off + j * 3 + 2)
      have iji : (i : Int) < (j : Int) := by omega
      have ini : (i : Int) < (n : Int) := by omega
      have jni : (j : Int) < (n : Int) := by omega
      have BB := hide hb
      clear hx hy hj rx ry ej hfz hb
      have hmx := vl.mixed
      go_wp2_with fail
      go_region_o
      obtain ⟨X, eX, hX1, hX2, hX3⟩ := rv_world (unhide HR) (unhide HZ) (by rw [← unhide HN]; exact unhide HJ) hij (by rw [← unhide HN]; exact hjn) (unhide HX) (unhide HY) (unhide BB) hB
      rw [eX]
      have G1 := hide hX1
      have G2 := hide hX2
      clear eX hX1 hX2 x0 x1 x2 y0 y1 y2 u0 u1 u2 v0 v1 v2 HR HZ BB
      go_wp2
      go_roundw
      case rel => exact ⟨i + 1, by omega, by simp, by have := unhide HJ; simp; omega, G1, G2, hX3⟩
      case measure => simp [intOf]; omega
    · go_wp2
      go_end0
      refine ⟨rfl, ?_, hb⟩
      intro k s hk hs
      refine unhide HR k s hk ?_
      rw [← hs]
      have hN := unhide HN
      unfold rvk
      rw [← hN] at hk ⊢
      by_cases hc : k < i ∨ n - 1 - i < k
      · rw [if_pos hc, if_pos (.inl hk)]
      · rw [if_neg hc, if_pos (.inl hk)]
        congr 1
        omega
set_option maxHeartbeats 4000000 in
theorem rev_nil (c : Nat) (w : World) : Calls Try.prog 25 #[.slice none 0 c] w fun e w' => e = .returned (.tuple #[]) ∧ w = w' := by
  go_enter Try.func25, Try.ntmps25
  go_wp2
  go_loopw [2, 3] (fun vi vj wr => vi = .int .i64 0 ∧ vj = .int .i64 (-1) ∧ w = wr) (fun _ _ _ => 0)
  case atStart => exact ⟨rfl, rfl, rfl⟩
  case round =>
    obtain ⟨rfl, rfl, rfl⟩ := hrel
    go_wp2
    go_end0
    exact ⟨rfl, rfl⟩
/-- a new list of steps is turned round in its place -/
theorem rev_grs {l : List St} {a : Option Addr} {n c : Nat} {w : World} {B : Nat} (h : GrS B l (.slice a n c) w) (hl : l.length ≤ 1048577) :
    Calls Try.prog 25 #[.slice a n c] w fun e w' => e = .returned (.tuple #[]) ∧ Pth w' a n l.reverse ∧ Below B w w' := by
  by_cases h0 : l = []
  · subst h0
    obtain ⟨xss, h1, -⟩ := h
    rcases h1.2 with ⟨e, -⟩ | ⟨g, cap, cur, e, hg, hh, hr⟩
    · cases e
      refine (rev_nil 0 w).mono ?_
      rintro e w1 ⟨rfl, rfl⟩
      exact ⟨rfl, ⟨rfl, .inl rfl⟩, Below.refl _ _⟩
    · simp only [List.length_nil, Value.slice.injEq] at e
      obtain ⟨rfl, rfl, rfl⟩ := e
      refine (rev_ok [] g 0 _ w (fun k s hk => absurd hk (Nat.not_lt_zero _)) (fun j => h1.frozenAt j) (by simp) B hg).mono ?_
      rintro e w1 ⟨rfl, -, hb⟩
      exact ⟨rfl, ⟨rfl, .inl rfl⟩, hb⟩
  · obtain ⟨g, cap, e, hp, hg, hlt, hfz⟩ := PO.of_grs h0 h
    simp only [Value.slice.injEq] at e
    obtain ⟨rfl, rfl, rfl⟩ := e
    obtain ⟨-, hp⟩ := hp
    have hcell : RvS l g 0 0 w := by
      intro k s hk hs
      unfold rvk at hs
      rw [if_neg (by omega)] at hs
      rcases hp with ⟨e, -⟩ | ⟨p, e1, e2, e3⟩
      · exact absurd e h0
      · cases e1
        rw [Nat.zero_add]
        exact e3 k s hs
    refine (rev_ok l g 0 c w hcell (fun j => hfz g (List.mem_singleton.2 rfl) j) hl B hg).mono ?_
    rintro e w1 ⟨rfl, hr, hb⟩
    refine ⟨rfl, ⟨by simp, .inr ⟨g, 0, rfl, Nat.lt_of_lt_of_le hlt hb.size, fun i hi => ?_⟩⟩, hb⟩
    obtain ⟨s, hs⟩ : ∃ s, l[l.length - 1 - i]? = some s := ⟨_, List.getElem?_eq_getElem (by omega)⟩
    have := hr i s hi (by unfold rvk; rw [if_pos (.inl hi)]; exact hs)
    refine ⟨s, by rw [List.getElem?_reverse hi]; exact hs, ?_⟩
    exact ⟨this 0 _ rfl, this 1 _ rfl, this 2 _ rfl⟩
end Go.Proofs.Ythpcpminikmcbaa.og
namespace Go.Proofs.Ythpcpminikmcbaa.og
open Go.ChangeShapes Go.WideShapes Go.ChangeAt Go.RowKit
open vl hiding cB cFl cS cF cI cK cIt
open stp (St Pth St3)
set_option linter.unusedVariables false
set_option linter.unusedSimpArgs false
set_option maxHeartbeats 4000000 in
set_option maxRecDepth 100000 in
theorem sound_ok (v : Vl) (cs : List Value) (w : World) (hv : VlC w v cs) (hsm : Small v) (hc : cnt v ≤ 1048576) : Calls Try.prog 9 #[.agg cs.toArray] w fun e w' => ∃ aj nj cj, e = .returned (.tuple #[.slice aj nj cj, .int .i64 (ffE v)]) ∧ Pth w' aj nj (ffP v) ∧ Below w.heap.size w w' := by
  have FF := hide (fun W (hb : Below w.heap.size w W) => ff_ok v hsm cs W (VlC.below hb _ _ hv) hc)
  have hl := hide (show (ffP v).reverse.length ≤ 1048577 by have := ffP_len v; simp; omega)
  obtain ⟨P, hP⟩ : ∃ P, P = ffP v := ⟨_, rfl⟩
  obtain ⟨E, hE⟩ : ∃ E, E = ffE v := ⟨_, rfl⟩
  rw [← hP] at hl FF
  rw [← hE] at FF
  rw [← hP, ← hE]
  clear hP hE
  obtain ⟨kd, b, m, f, tx, ty, its, fls⟩ := v
  unfold VlC at hv
  obtain ⟨ai, ni, ci, af, nf, cf, rfl, -⟩ := hv
  have hsf := storeF
  clear hsm hc
  go_enter Try.func9, Try.ntmps9
  go_wp2_with fail
  refine (unhide FF _ ((Below.refl _ _).alloc (Nat.le_refl _) _)).mono ?_
  rintro e w1 ⟨aj, nj, cj, rfl, hG, b1⟩
  have hb1 : Below w.heap.size w w1 := ((Below.refl _ _).alloc (Nat.le_refl _) _).trans (b1.mono (by simp))
  have R := hide (rev_grs hG (unhide hl))
  clear FF b1 hG hsf
  go_wp2_with fail
  refine (unhide R).mono ?_
  rintro e w2 ⟨rfl, hp, b2⟩
  clear R
  rw [List.reverse_reverse] at hp
  go_wp2
  go_ret2
  exact ⟨aj, nj, cj, rfl, hp, hb1.trans (b2.mono (by simp))⟩
end Go.Proofs.Ythpcpminikmcbaa.og
namespace Go.Proofs.Ythpcpminikmcbaa.og
open Go.ChangeShapes Go.WideShapes Go.ChangeAt Go.RowKit Go.Shelf
open vl hiding cB cFl cS cF cI cK cIt
open stp (St Pth St3)
open wk
attribute [local go_sem] Oper.semAt_some
set_option linter.unusedVariables false
set_option linter.unusedSimpArgs false
set_option maxRecDepth 100000 in
theorem fn_nil (a b : Value) (w : World) : (binOp .eql 41 (.func (.func 56) #[] #[a, b]) .nilFunc).run Try.prog w = .ok (.bool false) w := by kernel_rfl
/-- what TreeWalkGets keeps from round to round -/
structure WgI (w : World) (V : Vl) (cs : List Value) (E : Int) (u : Nat) (pre : List (Wel w)) (X : World) : Prop where
  nb : Boxed X (u + 1) 3 (.int .i64 (pre.length : Nat))
  db : ∃ (d : Nat) (r : List (List St × Vl)), Boxed X (u + 1 + 1) 3 (.int .i64 (d : Nat)) ∧ pre.map Wel.pv ++ r = pts V [] ∧ Lk r d ∧ d ≤ pre.length
  eb : Boxed X u 30 (.int .i64 E)
  vb : X.rangeAt w.heap.size 0 cs
  rb : Boxed X (w.heap.size + 1) 4 (.bool false)
  bel : Below w.heap.size w X
theorem WgI.keep {w : World} {V : Vl} {cs : List Value} {E : Int} {u : Nat} {pre : List (Wel w)} {X Y : World} (h : WgI w V cs E u pre X) (hu : w.heap.size + 2 ≤ u) (hk : ∀ b, w.heap.size ≤ b → b < u + 3 → Y.heap[b]? = X.heap[b]?) (hb : Below w.heap.size w Y) : WgI w V cs E u pre Y := by
  obtain ⟨d, r, h1, h2⟩ := h.db
  exact ⟨(hk _ (by omega) (by omega)).trans h.nb, ⟨d, r, (hk _ (by omega) (by omega)).trans h1, h2⟩, (hk _ (by omega) (by omega)).trans h.eb, fun j q hq => (cell_blk (hk _ (Nat.le_refl _) (by omega)) _).trans (h.vb j q hq), (hk _ (by omega) (by omega)).trans h.rb, hb⟩
theorem WgI.grown {w : World} {V : Vl} {cs : List Value} {E : Int} {u : Nat} {pre : List (Wel w)} {X Y : World} (h : WgI w V cs E u pre X) (hu : w.heap.size + 2 ≤ u) {row : Option Nat} (hg : X.grownBy Y row) (hr : ∀ r, row = some r → u + 3 ≤ r) : WgI w V cs E u pre Y := by
  have hlt : u + 2 < X.heap.size := by obtain ⟨d, r, h1, -⟩ := h.db; have := h1.lt; omega
  exact h.keep hu (fun b _ hb2 => hg.block b (by omega) (fun e => by have := hr b e.symm; omega)) (h.bel.trans ⟨hg.os, hg.tape, hg.output, hg.size, fun k hk => hg.block k (by omega) (fun e => by have := hr k e.symm; omega)⟩)
theorem Kz.setCell {Z : Nat → Prop} {pb : Option Nat} {A : World} {b o : Nat} (v : Value) (hb : ¬ Z b) : Kz Z pb A (A.setCell ⟨b, o, none⟩ v) :=
  ⟨rfl, rfl, rfl, by simp, fun k _ hz _ => Below.heap_setCell A ⟨b, o, none⟩ v k (fun e => hb (by have e : k = b := e; rw [← e]; exact hz))⟩
theorem grs_pth' {B : Nat} {l : List St} {aj : Option Addr} {nj cj : Nat} {w : World} (h : GrS B l (.slice aj nj cj) w) : nj = l.length ∧ Pth w aj l.length l ∧ l.length ≤ cj := by
  have hget := fun {k : Nat} {s : St} (hk : l[k]? = some s) => GrV.get h (fun e cs hc => by rw [hc]; rfl) hk
  obtain ⟨xss, h1, h2⟩ := h
  rcases h1.2 with ⟨e, h0⟩ | ⟨g, cap, cur, e, hg, hh, hc1, hc2, r⟩
  · simp only [Value.slice.injEq] at e
    obtain ⟨rfl, rfl, rfl⟩ := e
    exact ⟨h0.symm, ⟨rfl, .inl h0⟩, by omega⟩
  · have hlt := (h1.lt g (by rw [e]; rfl)).2
    simp only [Value.slice.injEq] at e
    obtain ⟨rfl, rfl, rfl⟩ := e
    refine ⟨rfl, ⟨rfl, ?_⟩, hc1⟩
    by_cases h0 : l.length = 0
    · exact .inl h0
    · refine .inr ⟨g, 0, rfl, hlt, fun k hk => ?_⟩
      obtain ⟨g', cap', cs, e, rfl, hr⟩ := hget (List.getElem?_eq_getElem hk)
      cases e
      refine ⟨_, List.getElem?_eq_getElem hk, ?_⟩
      unfold St3
      rw [Nat.zero_add]
      exact ⟨hr 0 _ rfl, hr 1 _ rfl, hr 2 _ rfl⟩
theorem pts_small : ∀ v : Vl, Small v → ∀ q ∈ pts v [], Small q.2 := by
  refine Vl.all ?_
  intro kd b n f tx ty its fls hI hF hsm q hq
  have hs := hsm
  unfold Small at hs
  obtain ⟨-, -, -, hsI, hsF⟩ := hs
  rw [pts_kids] at hq
  rcases List.mem_cons.1 hq with rfl | hq
  · exact hsm
  · obtain ⟨c, hc, hq⟩ := List.mem_flatMap.1 hq
    rw [pts_shift] at hq
    obtain ⟨r, hr, rfl⟩ := List.mem_map.1 hq
    exact mem_kids (P := fun v => ∀ q ∈ pts v [], Small q.2) (fun v hv => hI v hv (hsI.all v hv)) (fun q hq => hF q hq (hsF.all q hq)) c hc r hr
theorem undef_ne {b : Bool} (h : some undef = some (Value.bool b)) : False := by unfold undef at h; cases h
theorem wg_results (tmps : Array Value) (W : World) (B2 : Nat) (t2 : tmps[2]?.getD undef = .pointer (some ⟨B2, 0, none⟩)) (c2 : W.cell? ⟨B2, 0, none⟩ = some (.bool true)) :
    (results Try.f5 tmps).run Try.prog W = .ok (.bool true) W := by
  simp [results, Try.f5, go_sem, t2, c2]
theorem wg_step {w : World} {V : Vl} {cs : List Value} {E : Int} {u : Nat} {pre : List (Wel w)} {Y : World} (h : WgI w V cs E u pre Y) (hu : w.heap.size + 2 ≤ u) (d : Nat) (hd : Boxed Y (u + 1 + 1) 3 (.int .i64 (d : Nat))) {x : Wel w} {rr : List (List St × Vl)} (hs : (pre ++ [x]).map Wel.pv ++ rr = pts V [] ∧ Lk rr x.ss.length ∧ x.ss.length ≤ pre.length + 1) : WgI w V cs E u (pre ++ [x]) ((Y.setCell ⟨u + 1 + 1, 0, none⟩ (.int .i64 (x.ss.length : Nat))).setCell ⟨u + 1, 0, none⟩ (.int .i64 ((pre.length : Nat) + 1))) := by
  refine ⟨?_, ⟨x.ss.length, rr, (hd.set _).other (by omega) _, hs.1, hs.2.1, by rw [List.length_append]; simpa using hs.2.2⟩, (h.eb.other (by omega) _).other (by omega) _, ?_, (h.rb.other (by omega) _).other (by omega) _, (h.bel.setCell (p := ⟨u + 1 + 1, 0, none⟩) (by show w.heap.size ≤ u + 1 + 1; omega) _).setCell (p := ⟨u + 1, 0, none⟩) (by show w.heap.size ≤ u + 1; omega) _⟩
  · have := (h.nb.other (show u + 1 ≠ u + 1 + 1 by omega) (.int .i64 (x.ss.length : Nat))).set (.int .i64 ((pre.length : Nat) + 1))
    rw [List.length_append]
    exact this
  · intro j q hq
    refine (cell_blk ?_ _).trans (h.vb j q hq)
    rw [Below.heap_setCell _ ⟨u + 1, 0, none⟩ _ _ (by show w.heap.size ≠ u + 1; omega), Below.heap_setCell _ ⟨u + 1 + 1, 0, none⟩ _ _ (by show w.heap.size ≠ u + 1 + 1; omega)]
theorem walk_in (F : Fence) (n : Nat) (hF : F.fn 14) (hF2 : F.fn 32) (hro : F.round = none) (hn : 1 ≤ n) (v : Vl) (cs : List Value) (w w0 : World) (hv : VlC w0 v cs) :
    CallsIn F n Try.prog 14 #[.agg cs.toArray] w fun e w' => e = .returned (.func (.func 56) #[] #[.pointer (some ⟨w.heap.size + 1, 0, none⟩), .pointer (some ⟨w.heap.size + 1 + 1, 0, none⟩)]) ∧ w' = ((w.alloc (.cells cs.toArray 27)).alloc (.cells #[.slice none 0 0] 29)).alloc (.cells cs.toArray 27) := by
  obtain ⟨kd, b, m, f, tx, ty, its, fls⟩ := v
  unfold VlC at hv
  obtain ⟨ai, ni, ci, af, nf, cf, rfl, -⟩ := hv
  have hsf := storeF
  refine callsIn_of_wp Try.func14 rfl hF ?_ hro
  simp only [Try.ntmps14, List.size_toArray, List.length_cons, List.length_nil, Nat.reduceAdd, Nat.reduceSub, Array.replicate_succ, Array.replicate_zero, List.push_toArray, List.append_toArray, List.nil_append, List.cons_append]
  gi_wp2_with fail
  first
    | refine (walkFrom_in F _ hF2 hro _ _ _ [Value.int IntKind.i64 kd, Value.bool b, Value.int IntKind.i64 m, Value.float FloatKind.f64 f, Value.string tx, Value.string ty, Value.slice ai ni ci, Value.slice af nf cf] _).mono ?_
    | (refine ⟨hF2, ?_⟩; refine (walkFrom_in F _ hF2 hro _ _ _ [Value.int IntKind.i64 kd, Value.bool b, Value.int IntKind.i64 m, Value.float FloatKind.f64 f, Value.string tx, Value.string ty, Value.slice ai ni ci, Value.slice af nf cf] _).mono ?_)
  rintro e w' ⟨rfl, rfl⟩
  gi_wp2
  go_ret
  exact ⟨rfl, rfl⟩
set_option maxRecDepth 100000 in
set_option maxHeartbeats 1000000 in
theorem law_wgets (v : Vl) (cs : List Value) (w : World) (hv : VlC w v cs) (hsm : Small v) (hcn : cnt v ≤ 1048576) : Calls Try.prog 5 #[.agg cs.toArray] w fun e w' => e = .returned (.bool true) ∧ Below w.heap.size w w' := by
  have SO := hide (fun W (hb : Below w.heap.size w W) => sound_ok v cs W (VlC.below hb _ _ hv) hsm hcn)
  have CT := hide (fun W (hb : Below w.heap.size w W) => count_ok v hsm cs W (VlC.below hb _ _ hv))
  have GT := hide (fun W (hb : Below w.heap.size w W) => get_ok v cs W (VlC.below hb _ _ hv) hsm)
  have WA := hide (walk_ok v hsm)
  have WI := hide (fun (n : Nat) (hn : 1 ≤ n) (W : World) => walk_in Fence.wide n trivial trivial rfl hn v cs W w hv)
  have hc0 := hv
  have HE := hide (fun h => getP_pts v (ffE_all h))
  obtain ⟨E, hE⟩ : ∃ E, E = ffE v := ⟨_, rfl⟩
  rw [← hE] at SO HE
  clear hE
  obtain ⟨V, eV⟩ : ∃ V, V = v := ⟨_, rfl⟩
  have HV := hide (show VlC w V cs by rw [eV]; exact hv)
  have HSm := hide (show Small V by rw [eV]; exact hsm)
  have HCn := hide (show cnt V ≤ 1048576 by rw [eV]; exact hcn)
  rw [← eV] at WA HE GT CT
  clear hv
  have EV := hide eV
  clear eV
  obtain ⟨kd, b, m, f, tx, ty, its, fls⟩ := v
  unfold VlC at hc0
  obtain ⟨ai, ni, ci, af, nf, cf, rfl, -⟩ := hc0
  have hsf := storeF
  refine (callsIn_wide (n := 8)).1 ?_
  refine callsIn_of_wp_marks Try.func5 rfl trivial ?_ rfl
  simp only [Try.ntmps5, List.size_toArray, List.length_cons, List.length_nil, Nat.reduceAdd, Nat.reduceSub, Array.replicate_succ, Array.replicate_zero, List.push_toArray, List.append_toArray, List.nil_append, List.cons_append]
  gi_wp2_with fail
  obtain ⟨V1, eV1⟩ : ∃ V1, V1 = (w.alloc (.cells #[Value.int IntKind.i64 kd, Value.bool b, Value.int IntKind.i64 m, Value.float FloatKind.f64 f, Value.string tx, Value.string ty, Value.slice ai ni ci, Value.slice af nf cf] 27)).alloc (.cells #[.bool false] 4) := ⟨_, rfl⟩
  have b1 : Below w.heap.size w V1 := by rw [eV1]; exact ((Below.refl _ _).alloc (Nat.le_refl _) _).alloc (by simp) _
  have s1 : V1.heap.size = w.heap.size + 2 := by rw [eV1]; simp
  have q1 : Boxed V1 (w.heap.size + 1) 4 (.bool false) := by rw [eV1]; simpa using Boxed.new (w.alloc (.cells #[Value.int IntKind.i64 kd, Value.bool b, Value.int IntKind.i64 m, Value.float FloatKind.f64 f, Value.string tx, Value.string ty, Value.slice ai ni ci, Value.slice af nf cf] 27)) 4 (.bool false)
  have r1 : V1.rangeAt w.heap.size 0 [Value.int IntKind.i64 kd, Value.bool b, Value.int IntKind.i64 m, Value.float FloatKind.f64 f, Value.string tx, Value.string ty, Value.slice ai ni ci, Value.slice af nf cf] := fun j x hx => by
    rw [Nat.zero_add, eV1]
    refine (((Below.refl (w.heap.size + 1) (w.alloc (.cells #[Value.int IntKind.i64 kd, Value.bool b, Value.int IntKind.i64 m, Value.float FloatKind.f64 f, Value.string tx, Value.string ty, Value.slice ai ni ci, Value.slice af nf cf] 27))).alloc (by simp) _).cell (p := ⟨w.heap.size, j, none⟩) (Nat.lt_succ_self _)).trans ?_
    rw [World.cell?_alloc_at _ _ _ _ rfl]
    simpa using hx
  rw [← eV1]
  clear eV1
  refine ⟨trivial, ?_⟩
  gi_at_call 12
  refine (callsIn_wide.2 (known_ok V1)).mono ?_
  rintro e U1 ⟨rfl, g1⟩
  have b2 : Below w.heap.size w U1 := b1.trans (g1.mono b1.size)
  have r2 : U1.rangeAt w.heap.size 0 [Value.int IntKind.i64 kd, Value.bool b, Value.int IntKind.i64 m, Value.float FloatKind.f64 f, Value.string tx, Value.string ty, Value.slice ai ni ci, Value.slice af nf cf] := Row8.below r1 g1
  have q2 : Boxed U1 (w.heap.size + 1) 4 (.bool false) := (g1.block _ q1.lt).trans q1
  have s2 : w.heap.size + 2 ≤ U1.heap.size := by have := g1.size; omega
  clear b1 s1 q1 r1 g1
  obtain ⟨z0, z1, z2, z3, z4, z5, z6, z7⟩ := Row8.eight r2
  simp only [Nat.zero_add] at z1 z2 z3 z4 z5 z6 z7
  gi_wp2_with fail
  refine ⟨trivial, ?_⟩
  gi_at_call 9
  refine (callsIn_wide.2 (unhide SO U1 b2)).mono ?_
  rintro e U2 ⟨aj, nj, cj, rfl, -, g2⟩
  clear z0 z1 z2 z3 z4 z5 z6 z7 SO
  have b3 : Below w.heap.size w U2 := b2.trans (g2.mono b2.size)
  have r3 : U2.rangeAt w.heap.size 0 [Value.int IntKind.i64 kd, Value.bool b, Value.int IntKind.i64 m, Value.float FloatKind.f64 f, Value.string tx, Value.string ty, Value.slice ai ni ci, Value.slice af nf cf] := Row8.below r2 g2
  have q3 : Boxed U2 (w.heap.size + 1) 4 (.bool false) := (g2.block _ q2.lt).trans q2
  have s3 : w.heap.size + 2 ≤ U2.heap.size := by have := g2.size; omega
  clear b2 r2 q2 s2 g2
  obtain ⟨U3, eU3⟩ : ∃ U3, U3 = ((U2.alloc (.cells #[.int .i64 E] 30)).alloc (.cells #[.int .i64 0] 3)).alloc (.cells #[.int .i64 0] 3) := ⟨_, rfl⟩
  have g3 : Below U2.heap.size U2 U3 := by rw [eU3]; exact (((Below.refl _ _).alloc (Nat.le_refl _) _).alloc (by simp) _).alloc (by simp; omega) _
  have b4 : Below w.heap.size w U3 := b3.trans (g3.mono b3.size)
  have r4 : U3.rangeAt w.heap.size 0 [Value.int IntKind.i64 kd, Value.bool b, Value.int IntKind.i64 m, Value.float FloatKind.f64 f, Value.string tx, Value.string ty, Value.slice ai ni ci, Value.slice af nf cf] := Row8.below r3 g3
  have q4 : Boxed U3 (w.heap.size + 1) 4 (.bool false) := (g3.block _ q3.lt).trans q3
  obtain ⟨z0, z1, z2, z3, z4, z5, z6, z7⟩ := Row8.eight r4
  simp only [Nat.zero_add] at z1 z2 z3 z4 z5 z6 z7
  have EU3 := hide eU3
  rw [eU3] at z0 z1 z2 z3 z4 z5 z6 z7
  clear eU3
  gi_wp2_with fail
  rw [← unhide EU3]
  clear z0 z1 z2 z3 z4 z5 z6 z7
  refine ⟨trivial, ?_⟩
  gi_at_call 14
  refine (unhide WI _ (by omega) U3).mono ?_
  rintro e w' ⟨rfl, rfl⟩
  have hfn := fn_nil
  gi_wp2_with fail
  clear hfn
  obtain ⟨U4, eU4⟩ : ∃ U4, U4 = ((U3.alloc (.cells #[Value.int IntKind.i64 kd, Value.bool b, Value.int IntKind.i64 m, Value.float FloatKind.f64 f, Value.string tx, Value.string ty, Value.slice ai ni ci, Value.slice af nf cf] 27)).alloc (.cells #[Value.slice none 0 0] 29)).alloc (.cells #[Value.int IntKind.i64 kd, Value.bool b, Value.int IntKind.i64 m, Value.float FloatKind.f64 f, Value.string tx, Value.string ty, Value.slice ai ni ci, Value.slice af nf cf] 27) := ⟨_, rfl⟩
  have g4 : Below U3.heap.size U3 U4 := by rw [eU4]; exact (((Below.refl _ _).alloc (Nat.le_refl _) _).alloc (by simp) _).alloc (by simp; omega) _
  have s34 : U4.heap.size ≤ U3.heap.size + 3 := by rw [eU4]; simp
  have s34' : U3.heap.size + 3 ≤ U4.heap.size := by rw [eU4]; simp
  have s23 : U3.heap.size ≤ U2.heap.size + 3 := by rw [unhide EU3]; simp
  have s23' : U2.heap.size + 3 ≤ U3.heap.size := by rw [unhide EU3]; simp
  have bxp : Boxed U4 (U3.heap.size + 1) 29 (.slice none 0 0) := by
    rw [eU4]
    have := (Boxed.new (U3.alloc (.cells #[Value.int IntKind.i64 kd, Value.bool b, Value.int IntKind.i64 m, Value.float FloatKind.f64 f, Value.string tx, Value.string ty, Value.slice ai ni ci, Value.slice af nf cf] 27)) 29 (.slice none 0 0)).alloc (.cells #[Value.int IntKind.i64 kd, Value.bool b, Value.int IntKind.i64 m, Value.float FloatKind.f64 f, Value.string tx, Value.string ty, Value.slice ai ni ci, Value.slice af nf cf] 27)
    simpa using this
  have rxv : U4.rangeAt (U3.heap.size + 1 + 1) 0 [Value.int IntKind.i64 kd, Value.bool b, Value.int IntKind.i64 m, Value.float FloatKind.f64 f, Value.string tx, Value.string ty, Value.slice ai ni ci, Value.slice af nf cf] := fun j q hq => by
    rw [eU4, Nat.zero_add, World.cell?_alloc_at _ _ _ _ (by simp)]
    simpa using hq
  have i0 : WgI w V [Value.int IntKind.i64 kd, Value.bool b, Value.int IntKind.i64 m, Value.float FloatKind.f64 f, Value.string tx, Value.string ty, Value.slice ai ni ci, Value.slice af nf cf] E U2.heap.size [] U3 := by
    refine ⟨?_, ⟨0, pts V [], ?_, rfl, lk_pts V [] 0 (by simp), Nat.zero_le _⟩, ?_, r4, q4, b4⟩
    · rw [unhide EU3]; have := (Boxed.new (U2.alloc (.cells #[.int .i64 E] 30)) 3 (.int .i64 0)).alloc (.cells #[.int .i64 0] 3); simpa using this
    · rw [unhide EU3]; have := Boxed.new ((U2.alloc (.cells #[.int .i64 E] 30)).alloc (.cells #[.int .i64 0] 3)) 3 (.int .i64 0); simpa using this
    · rw [unhide EU3]; exact ((Boxed.new U2 30 (.int .i64 E)).alloc _).alloc _
  have hu2 : w.heap.size + 2 ≤ U2.heap.size := s3
  have b5 : Below w.heap.size w U4 := b4.trans (g4.mono b4.size)
  have i1 : WgI w V [Value.int IntKind.i64 kd, Value.bool b, Value.int IntKind.i64 m, Value.float FloatKind.f64 f, Value.string tx, Value.string ty, Value.slice ai ni ci, Value.slice af nf cf] E U2.heap.size [] U4 := i0.keep hu2 (fun b _ hb => g4.block b (by omega)) b5
  rw [← eU4]
  have I1 := hide i1
  have hsf2 := hide hsf
  clear eU4 i0 i1 hsf r4 q4 b4 r3 q3 b3 g3 g4
  refine wpT_H (α := Wel w) rfl (by omega) (gf := 56) (lb := #[.pointer (some ⟨U3.heap.size + 1, 0, none⟩), .pointer (some ⟨U3.heap.size + 1 + 1, 0, none⟩)]) rfl trivial (enters_of Try.func56 (by kernel_rfl) rfl)
    (encs := Wel.enc (w0 := w)) (Rd := fun x A => GrS (U4.heap.size + 2) x.ss x.sl A) (C := Ch (U4.heap.size + 2) none 0) (Kp := fun x A A' => Kz (Zw w (U4.heap.size + 2) (U3.heap.size + 1) (U3.heap.size + 1 + 1) none) x.sl.ownBlock A A')
    (S := fun xs => xs.map Wel.pv = pts V []) (Sp := fun pre => ∃ k, pre.map Wel.pv = (pts V []).take k) (Nx := fun pre x => ∃ r, pre.map Wel.pv ++ x.pv :: r = pts V [])
    (fun W1 hb hs => by
      have := unhide WA w [Value.int IntKind.i64 kd, Value.bool b, Value.int IntKind.i64 m, Value.float FloatKind.f64 f, Value.string tx, Value.string ty, Value.slice ai ni ci, Value.slice af nf cf] (unhide HV) (8 - 1) [] (.slice none 0 0) (U3.heap.size + 1) (U3.heap.size + 1 + 1) w.heap.size W1 (b5.trans (hb.mono b5.size)) (Nat.le_refl _) (by omega) (by omega) ((hb.block _ bxp.lt).trans bxp) (Row8.below rxv hb) GrV.nil (fun g e => by simp [Value.ownBlock] at e) (fun _ => rfl) (by have := unhide HCn; simp; omega) (by omega)
      rw [hs] at this
      exact this)
    (fun A B hc k h1 h2 _ => hc.block k h2 (by simp))
    (fun x {A B C} h k => h.trans k) (fun x X o o' _ => Kz.putObj _ (fun h => by rcases h with h | h | h | h | h <;> first | omega | cases h)) (fun _ => rfl)
    (fun pre X => WgI w V [Value.int IntKind.i64 kd, Value.bool b, Value.int IntKind.i64 m, Value.float FloatKind.f64 f, Value.string tx, Value.string ty, Value.slice ai ni ci, Value.slice af nf cf] E U2.heap.size pre X) (fun _ _ _ => False)
    (fun pre A B h hc => h.keep hu2 (fun b _ hb => hc.block b (by omega) (by simp)) (h.bel.trans (hc.below (by omega) (fun g e => by cases e))))
    (fun c pre A B h _ => h)
    (fun pre A B row h hg hr => h.grown hu2 hg (fun r e => by have := (hr r e).1; omega))
    (fun c pre A B row h _ _ => h)
    (unhide I1)
    (fun x a' X => ∃ Bq, Bq < X.heap.size ∧ U2.heap.size + 3 ≤ Bq ∧ GrS (U4.heap.size + 2) x.ss x.sl X ∧ X.rangeAt Bq 0 x.cs ∧ a' = { tmps := #[.agg #[Value.int IntKind.i64 kd, Value.bool b, Value.int IntKind.i64 m, Value.float FloatKind.f64 f, Value.string tx, Value.string ty, Value.slice ai ni ci, Value.slice af nf cf], .pointer (some ⟨w.heap.size, 0, none⟩), .pointer (some ⟨w.heap.size + 1, 0, none⟩), .slice aj nj cj, .pointer (some ⟨U2.heap.size, 0, none⟩), .pointer (some ⟨U2.heap.size + 1, 0, none⟩), .pointer (some ⟨U2.heap.size + 1 + 1, 0, none⟩), .func (.func 56) #[] #[.pointer (some ⟨U3.heap.size + 1, 0, none⟩), .pointer (some ⟨U3.heap.size + 1 + 1, 0, none⟩)], x.sl, .pointer (some ⟨Bq, 0, none⟩), undef, undef, .bool true, .bool false, .tuple #[.slice aj nj cj, .int .i64 E], .agg #[Value.int IntKind.i64 kd, Value.bool b, Value.int IntKind.i64 m, Value.float FloatKind.f64 f, Value.string tx, Value.string ty, Value.slice ai ni ci, Value.slice af nf cf], .tuple #[.slice aj nj cj, .int .i64 E], .slice aj nj cj, .int .i64 E, .agg #[Value.int IntKind.i64 kd, Value.bool b, Value.int IntKind.i64 m, Value.float FloatKind.f64 f, Value.string tx, Value.string ty, Value.slice ai ni ci, Value.slice af nf cf], .func (.func 56) #[] #[.pointer (some ⟨U3.heap.size + 1, 0, none⟩), .pointer (some ⟨U3.heap.size + 1 + 1, 0, none⟩)], .func (.func 56) #[] #[.pointer (some ⟨U3.heap.size + 1, 0, none⟩), .pointer (some ⟨U3.heap.size + 1 + 1, 0, none⟩)], .bool false, .func (.func 56) #[] #[.pointer (some ⟨U3.heap.size + 1, 0, none⟩), .pointer (some ⟨U3.heap.size + 1 + 1, 0, none⟩)], x.sl, .agg x.cs.toArray, undef, undef, undef, undef, undef, undef, undef, undef, undef, undef, undef, undef, undef, undef, undef, undef, undef, undef, undef, undef, undef, undef, undef, undef, undef, undef, undef, undef, undef, undef, undef, undef, undef, undef, undef, undef, undef, undef, undef], defers := [] })
    (fun x a' _ X Y row hs hg hr => by obtain ⟨Bq, h2, h3, h4, h6, h7⟩ := hs; exact ⟨Bq, Nat.lt_of_lt_of_le h2 hg.size, h3, grs_grown h4 hg (fun r e => (hr r e).2), fun j u hu => cell_kept (h6 j u hu) hg (fun r e => (hr r e).2), h7⟩)
    ?assign ?body ?done ?stop
  case assign =>
    rintro l pre x X K hI hRd - hK
    obtain ⟨xss, xv, xcs, xhv, xa, xc⟩ := x
    have hx' := xhv
    obtain ⟨xkd, xb, xm, xf, xtx, xty, xits, xfls⟩ := xv
    unfold VlC at hx'
    obtain ⟨xai, xni, xci, xaf, xnf, xcf, rfl, -⟩ := hx'
    unfold Wel.enc Wel.sl
    simp only
    have HI := hide hI
    have HRd := hide hRd
    have hsf := unhide hsf2
    clear hI hRd
    gi_wp2
    have bb : Below X.heap.size X (X.alloc (.cells #[Value.int IntKind.i64 xkd, Value.bool xb, Value.int IntKind.i64 xm, Value.float FloatKind.f64 xf, Value.string xtx, Value.string xty, Value.slice xai xni xci, Value.slice xaf xnf xcf] 27)) := (Below.refl _ X).alloc (Nat.le_refl _) _
    have hI := unhide HI
    have hRd := unhide HRd
    have hlt : U2.heap.size + 2 < X.heap.size := by obtain ⟨d, r, h1, -⟩ := hI.db; have := h1.lt; omega
    refine hK _ _ (keepsFrom_below bb) (Kz.of_below bb) (hI.keep hu2 (fun b _ hb => bb.block b (by omega)) (hI.bel.trans (bb.mono hI.bel.size))) ⟨X.heap.size, by simp, by omega, Ch.grs_far (Ch.of_below (G := none) (m := 0) (fun g e => by cases e) bb) (fun q hq => ⟨(hRd.lt q hq).2, by simp⟩) hRd, fun j q hq => ?_, rfl⟩
    rw [Nat.zero_add, World.cell?_alloc_at _ _ _ _ rfl]
    simpa using hq
  case body =>
    rintro l pre x a' X hl ⟨r1, hr1⟩ hI ⟨Bq, hBq, hBq2, hGx, hrq, rfl⟩ ⟨rr, hnx⟩
    obtain ⟨d, r0, hdb, hpr, hLk, hd⟩ := hI.db
    have hr0 : r0 = x.pv :: rr := List.append_cancel_left (hpr.trans hnx.symm)
    rw [hr0] at hLk hpr
    clear hr0
    obtain ⟨hL1, hL2⟩ := hLk
    have hL1 : x.ss.length ≤ d + 1 := hL1
    have hL2 : Lk rr x.ss.length := hL2
    have hhd := pts_head hnx
    rw [List.length_map] at hhd
    have hhd : (pre.length = 0 ↔ x.ss.length = 0) := hhd
    have hpl : pre.length < cnt V := by
      have := congrArg List.length hnx
      rw [List.length_append, List.length_map, List.length_cons, pts_len] at this
      omega
    have hxm : x.pv ∈ pts V [] := by rw [← hnx]; simp
    have hcn := unhide HCn
    have hsl : x.ss.length ≤ 1048576 := by omega
    obtain ⟨xss, xv, xcs, xhv, xa, xc⟩ := x
    have hGx : GrS (U4.heap.size + 2) xss (.slice xa xss.length xc) X := hGx
    have hL1 : xss.length ≤ d + 1 := hL1
    have hL2 : Lk rr xss.length := hL2
    have hhd : (pre.length = 0 ↔ xss.length = 0) := hhd
    have hsl : xss.length ≤ 1048576 := hsl
    have hxm : (xss, xv) ∈ pts V [] := hxm
    have hnx : pre.map Wel.pv ++ (xss, xv) :: rr = pts V [] := hnx
    obtain ⟨-, hPth, -⟩ := grs_pth' hGx
    have G1 := hide (unhide GT X hI.bel xa xss.length xc xss hPth (by omega))
    have HXV := hide (show VlC w xv xcs from xhv)
    have HXm := hide hxm
    have hSx : Small xv := pts_small V (unhide HSm) _ hxm
    have HSx := hide hSx
    obtain ⟨xkd, xb, xm, xf, xtx, xty, xits, xfls⟩ := xv
    have hx' : VlC w (.mk xkd xb xm xf xtx xty xits xfls) xcs := xhv
    unfold VlC at hx'
    obtain ⟨xai, xni, xci, xaf, xnf, xcf, rfl, -⟩ := hx'
    have hrq : X.rangeAt Bq 0 [Value.int IntKind.i64 xkd, Value.bool xb, Value.int IntKind.i64 xm, Value.float FloatKind.f64 xf, Value.string xtx, Value.string xty, Value.slice xai xni xci, Value.slice xaf xnf xcf] := hrq
    have hxsz := hI.bel.size
    obtain ⟨z0, z1, z2, z3, z4, z5, z6, z7⟩ := Row8.eight hI.vb
    simp only [Nat.zero_add] at z1 z2 z3 z4 z5 z6 z7
    have HI := hide hI
    have HDB := hide hdb
    have hlt : U2.heap.size + 2 < X.heap.size := by have := hdb.lt; omega
    have ZN1 := hide (show ¬ Zw w (U4.heap.size + 2) (U3.heap.size + 1) (U3.heap.size + 1 + 1) none (U2.heap.size + 1 + 1) from fun h => by rcases h with h | h | h | h | h <;> first | omega | cases h)
    have ZN2 := hide (show ¬ Zw w (U4.heap.size + 2) (U3.heap.size + 1) (U3.heap.size + 1 + 1) none (U2.heap.size + 1) from fun h => by rcases h with h | h | h | h | h <;> first | omega | cases h)
    have HST := hide (show (pre ++ [(⟨xss, .mk xkd xb xm xf xtx xty xits xfls, [Value.int IntKind.i64 xkd, Value.bool xb, Value.int IntKind.i64 xm, Value.float FloatKind.f64 xf, Value.string xtx, Value.string xty, Value.slice xai xni xci, Value.slice xaf xnf xcf], xhv, xa, xc⟩ : Wel w)]).map Wel.pv ++ rr = pts V [] ∧ Lk rr xss.length ∧ xss.length ≤ pre.length + 1 by
      refine ⟨?_, hL2, by omega⟩
      rw [List.map_append, List.append_assoc]
      exact hnx)
    have HGx := hide hGx
    obtain ⟨P, eP⟩ : ∃ P, P = pre.length := ⟨_, rfl⟩
    obtain ⟨Q, eQ⟩ : ∃ Q, Q = xss.length := ⟨_, rfl⟩
    rw [← eP] at hhd hpl hd
    rw [← eQ] at hhd hL1 hsl G1
    have EP := hide eP
    have EQ := hide eQ
    have hQd : ¬ ((d : Int) + 1 < (Q : Int)) := by omega
    have hPb : P < 1048576 := by omega
    have hdb' : d ≤ 1048576 := by omega
    unfold Wel.sl
    simp only
    rw [← eQ]
    have hsf := unhide hsf2
    clear hI hdb hGx hPth hnx hxm hL1 hL2 hpr eP eQ hSx
    gi_wp2_with fail
    refine ⟨trivial, ?_⟩
    gi_at_call 16
    refine (CallsIn.inRound l (callsIn_wide.2 (unhide G1))).mono ?_
    rintro e Y1 ⟨bY1, ok, u, ds, rfl, hFr, hcase⟩
    clear z0 z1 z2 z3 z4 z5 z6 z7 G1
    have hds := hFr.read
    have HU := hide hds
    obtain ⟨ukd, ub, um, uf, utx, uty, uits, ufls⟩ := u
    unfold VlC at hds
    obtain ⟨uai, uni, uci, uaf, unf, ucf, rfl, -⟩ := hds
    clear hFr
    obtain ⟨Y2, eY2⟩ : ∃ Y2, Y2 = Y1.alloc (.cells #[Value.int IntKind.i64 ukd, Value.bool ub, Value.int IntKind.i64 um, Value.float FloatKind.f64 uf, Value.string utx, Value.string uty, Value.slice uai uni uci, Value.slice uaf unf ucf] 27) := ⟨_, rfl⟩
    have bY2 : Below Y1.heap.size Y1 Y2 := by rw [eY2]; exact (Below.refl _ _).alloc (Nat.le_refl _) _
    have bXY2 : Below X.heap.size X Y2 := bY1.trans (bY2.mono bY1.size)
    have EY2 := hide eY2
    have ec : Y2.cell? ⟨U2.heap.size, 0, none⟩ = some (.int .i64 E) := Boxed.cell ((bXY2.block _ (by omega)).trans (unhide HI).eb : Boxed Y2 U2.heap.size 30 (.int .i64 E))
    rw [eY2] at ec
    by_cases hE0 : E = 0
    · have hget := unhide HE hE0 _ (unhide HXm)
      simp only at hget
      cases ok with
      | false => simp at hcase; rw [hget] at hcase; exact absurd hcase.1 (by simp)
      | true =>
        have heq : Vl.mk xkd xb xm xf xtx xty xits xfls = Vl.mk ukd ub um uf utx uty uits ufls := by
          have : getP V xss = some (Vl.mk ukd ub um uf utx uty uits ufls) := by simpa using hcase
          exact Option.some.inj (hget.symm.trans this)
        have EQL := hide (by
          have := equal_ok (.mk ukd ub um uf utx uty uits ufls) (.mk xkd xb xm xf xtx xty xits xfls) (by rw [← heq]; exact unhide HSx) (unhide HSx) [Value.int IntKind.i64 ukd, Value.bool ub, Value.int IntKind.i64 um, Value.float FloatKind.f64 uf, Value.string utx, Value.string uty, Value.slice uai uni uci, Value.slice uaf unf ucf] [Value.int IntKind.i64 xkd, Value.bool xb, Value.int IntKind.i64 xm, Value.float FloatKind.f64 xf, Value.string xtx, Value.string xty, Value.slice xai xni xci, Value.slice xaf xnf xcf] Y2 (VlC.below bY2 _ _ (unhide HU)) (VlC.below ((unhide HI).bel.trans (bXY2.mono (unhide HI).bel.size)) _ _ (unhide HXV))
          rw [heq, ordV_self, show ((0 : Int) == 0) = true from rfl] at this
          exact this)
        subst hE0
        obtain ⟨k0, k1, k2, k3, k4, k5, k6, k7⟩ := Row8.eight (Row8.below hrq bXY2)
        simp only [Nat.zero_add] at k1 k2 k3 k4 k5 k6 k7
        rw [eY2] at k0 k1 k2 k3 k4 k5 k6 k7
        clear heq hcase hget eY2
        gi_wp2_with fail
        rw [← unhide EY2]
        refine ⟨trivial, ?_⟩
        gi_at_call 17
        refine (CallsIn.inRound l (callsIn_wide.2 (unhide EQL))).mono ?_
        rintro e Y ⟨rfl, bY3⟩
        have bY : Below X.heap.size X Y := bXY2.trans (bY3.mono bXY2.size)
        clear ec k0 k1 k2 k3 k4 k5 k6 k7 EQL bY3
        have HIY := (unhide HI).keep hu2 (fun b _ hb => bY.block b (by omega)) ((unhide HI).bel.trans (bY.mono (unhide HI).bel.size))
        have dbY : Boxed Y (U2.heap.size + 1 + 1) 3 (.int .i64 (d : Nat)) := (bY.block _ (by omega)).trans (unhide HDB)
        have nb := HIY.nb
        have FIN := hide (wg_step HIY hu2 d dbY (x := ⟨xss, .mk xkd xb xm xf xtx xty xits xfls, [Value.int IntKind.i64 xkd, Value.bool xb, Value.int IntKind.i64 xm, Value.float FloatKind.f64 xf, Value.string xtx, Value.string xty, Value.slice xai xni xci, Value.slice xaf xnf xcf], xhv, xa, xc⟩) (unhide HST))
        rw [← unhide EP] at nb FIN
        rw [show (Wel.ss (⟨xss, .mk xkd xb xm xf xtx xty xits xfls, [Value.int IntKind.i64 xkd, Value.bool xb, Value.int IntKind.i64 xm, Value.float FloatKind.f64 xf, Value.string xtx, Value.string xty, Value.slice xai xni xci, Value.slice xaf xnf xcf], xhv, xa, xc⟩ : Wel w)).length = Q from (unhide EQ).symm] at FIN
        have nbc := nb.cell
        have nbf := nb.frozen
        have dbc := dbY.cell
        have dbf := dbY.frozen
        have KP := hide (show KeepsFrom U4.heap.size X ((Y.setCell ⟨U2.heap.size + 1 + 1, 0, none⟩ (.int .i64 (Q : Nat))).setCell ⟨U2.heap.size + 1, 0, none⟩ (.int .i64 ((P : Nat) + 1))) from ((keepsFrom_below bY).trans ((KeepsOthers.setCell _ _ _).from _)).trans ((KeepsOthers.setCell _ _ _).from _))
        have KQ := hide (show Kz (Zw w (U4.heap.size + 2) (U3.heap.size + 1) (U3.heap.size + 1 + 1) none) (Value.slice xa Q xc).ownBlock X ((Y.setCell ⟨U2.heap.size + 1 + 1, 0, none⟩ (.int .i64 (Q : Nat))).setCell ⟨U2.heap.size + 1, 0, none⟩ (.int .i64 ((P : Nat) + 1))) from ((Kz.of_below bY).trans (Kz.setCell _ (unhide ZN1))).trans (Kz.setCell _ (unhide ZN2)))
        clear nb dbY HIY bY
        by_cases hP0 : P = 0
        · have hQ0 : Q = 0 := hhd.1 hP0
          subst hP0
          subst hQ0
          gi_wp2
          exact ⟨unhide KP, unhide KQ, unhide FIN⟩
        · have p1 : ((P : Int) == 0) = false := by simpa using hP0
          have p2 : ((Q : Int) == 0) = false := by have : Q ≠ 0 := fun h => hP0 (hhd.2 h); simpa using this
          clear hP0
          gi_wp2
          exact ⟨unhide KP, unhide KQ, unhide FIN⟩
    · have hE1 : (E == 0) = false := by simpa using hE0
      clear hE0
      have bY := bXY2
      have HIY := (unhide HI).keep hu2 (fun b _ hb => bY.block b (by omega)) ((unhide HI).bel.trans (bY.mono (unhide HI).bel.size))
      have dbY : Boxed Y2 (U2.heap.size + 1 + 1) 3 (.int .i64 (d : Nat)) := (bY.block _ (by omega)).trans (unhide HDB)
      have nb := HIY.nb
      have FIN := hide (wg_step HIY hu2 d dbY (x := ⟨xss, .mk xkd xb xm xf xtx xty xits xfls, [Value.int IntKind.i64 xkd, Value.bool xb, Value.int IntKind.i64 xm, Value.float FloatKind.f64 xf, Value.string xtx, Value.string xty, Value.slice xai xni xci, Value.slice xaf xnf xcf], xhv, xa, xc⟩) (unhide HST))
      rw [← unhide EP] at nb FIN
      rw [show (Wel.ss (⟨xss, .mk xkd xb xm xf xtx xty xits xfls, [Value.int IntKind.i64 xkd, Value.bool xb, Value.int IntKind.i64 xm, Value.float FloatKind.f64 xf, Value.string xtx, Value.string xty, Value.slice xai xni xci, Value.slice xaf xnf xcf], xhv, xa, xc⟩ : Wel w)).length = Q from (unhide EQ).symm] at FIN
      have nbc := nb.cell
      have nbf := nb.frozen
      have dbc := dbY.cell
      have dbf := dbY.frozen
      have KP := hide (show KeepsFrom U4.heap.size X ((Y2.setCell ⟨U2.heap.size + 1 + 1, 0, none⟩ (.int .i64 (Q : Nat))).setCell ⟨U2.heap.size + 1, 0, none⟩ (.int .i64 ((P : Nat) + 1))) from ((keepsFrom_below bY).trans ((KeepsOthers.setCell _ _ _).from _)).trans ((KeepsOthers.setCell _ _ _).from _))
      have KQ := hide (show Kz (Zw w (U4.heap.size + 2) (U3.heap.size + 1) (U3.heap.size + 1 + 1) none) (Value.slice xa Q xc).ownBlock X ((Y2.setCell ⟨U2.heap.size + 1 + 1, 0, none⟩ (.int .i64 (Q : Nat))).setCell ⟨U2.heap.size + 1, 0, none⟩ (.int .i64 ((P : Nat) + 1))) from ((Kz.of_below bY).trans (Kz.setCell _ (unhide ZN1))).trans (Kz.setCell _ (unhide ZN2)))
      clear nb dbY HIY bY bXY2 bY2 bY1 hcase
      rw [eY2] at nbc nbf dbc dbf KP KQ FIN
      clear eY2 EY2
      by_cases hP0 : P = 0
      · have hQ0 : Q = 0 := hhd.1 hP0
        subst hP0
        subst hQ0
        gi_wp2_with (first | (exfalso; exact undef_ne (by assumption)) | refine ⟨trivial, ?_⟩)
        all_goals first | (exfalso; exact undef_ne (by assumption)) | exact ⟨unhide KP, unhide KQ, unhide FIN⟩
      · have p1 : ((P : Int) == 0) = false := by simpa using hP0
        have p2 : ((Q : Int) == 0) = false := by have : Q ≠ 0 := fun h => hP0 (hhd.2 h); simpa using this
        clear hP0
        gi_wp2_with (first | (exfalso; exact undef_ne (by assumption)) | refine ⟨trivial, ?_⟩)
        all_goals first | (exfalso; exact undef_ne (by assumption)) | exact ⟨unhide KP, unhide KQ, unhide FIN⟩
  case done =>
    rintro D xs X hD hD2 hxs hI hK
    have hlen : xs.length = cnt V := by have := congrArg List.length hxs; rw [List.length_map, pts_len] at this; exact this
    have hcn := unhide HCn
    obtain ⟨N, eN⟩ : ∃ N, N = xs.length := ⟨_, rfl⟩
    have hN : N ≤ 1048576 := by omega
    have hw : wrap64 ((cnt V : Nat) : Int) = (N : Int) := by rw [eN, hlen]; unfold wrap64; omega
    have CT1 := hide (fun W hb => by have := unhide CT W hb; rw [hw] at this; exact this)
    have hnb := hI.nb
    rw [← eN] at hnb
    have hrb := hI.rb
    have hvb := hI.vb
    have hbel := hI.bel
    have hlt : U2.heap.size + 2 < X.heap.size := by obtain ⟨d, r, h1, -⟩ := hI.db; have := h1.lt; omega
    have hDX : D < X.heap.size := (Array.getElem?_eq_some_iff.1 hK).1
    have HD := hide hK
    clear hK hxs hI hlen hw eN
    gi_wp2_with fail
    refine wpIn_wide.2 ?_
    have hS0 : Boxed ({ X with drawn := X.drawn + 1 } : World) (U2.heap.size + 1) 3 (.int .i64 (N : Nat)) ∧ ({ X with drawn := X.drawn + 1 } : World).rangeAt w.heap.size 0 [Value.int IntKind.i64 kd, Value.bool b, Value.int IntKind.i64 m, Value.float FloatKind.f64 f, Value.string tx, Value.string ty, Value.slice ai ni ci, Value.slice af nf cf] := ⟨hnb, hvb⟩
    refine wp_region_noPanic ?_
    refine wp_region_held (S := fun w' => Boxed w' (U2.heap.size + 1) 3 (.int .i64 (N : Nat)) ∧ w'.rangeAt w.heap.size 0 [Value.int IntKind.i64 kd, Value.bool b, Value.int IntKind.i64 m, Value.float FloatKind.f64 f, Value.string tx, Value.string ty, Value.slice ai ni ci, Value.slice af nf cf]) mixed ?_
    refine wpAnyH_take (i := 0) (v := ?v1) rfl (by kernel_rfl) (by kernel_rfl) (by kernel_rfl) (fun _ _ _ h => h) (Or.inl ⟨by rfl, ?hy1⟩) hS0 ?_
    case hy1 => (intro w' hw'; have cn := hw'.1.cell; obtain ⟨z0, z1, z2, z3, z4, z5, z6, z7⟩ := Row8.eight hw'.2; simp only [Nat.zero_add] at z1 z2 z3 z4 z5 z6 z7; go_simp; try with_reducible rfl)
    simp only [List.getElem_toArray, List.getElem_cons_zero, List.getElem_cons_succ, Act.put, List.setIfInBounds_toArray, List.set_cons_zero, List.set_cons_succ]
    refine wpAnyH_take (i := 1) (v := ?v2) rfl (by kernel_rfl) (by kernel_rfl) (by kernel_rfl) (fun _ _ _ h => h) (Or.inl ⟨by rfl, ?hy2⟩) hS0 ?_
    case hy2 => (intro w' hw'; have cn := hw'.1.cell; obtain ⟨z0, z1, z2, z3, z4, z5, z6, z7⟩ := Row8.eight hw'.2; simp only [Nat.zero_add] at z1 z2 z3 z4 z5 z6 z7; go_simp; try with_reducible rfl)
    simp only [List.getElem_toArray, List.getElem_cons_zero, List.getElem_cons_succ, Act.put, List.setIfInBounds_toArray, List.set_cons_zero, List.set_cons_succ]
    refine rgn.one (i := 2) _ rfl (by kernel_rfl) (by rfl) ?_
    simp only [List.getElem_toArray, List.getElem_cons_zero, List.getElem_cons_succ, Act.put, List.setIfInBounds_toArray, List.set_cons_zero, List.set_cons_succ]
    go_wp2_with fail
    refine (unhide CT1 X.drew hbel.drew).mono ?_
    rintro e X1 ⟨rfl, g1⟩
    have bX1 : Below X.heap.size X X1 := (Below.refl _ _).drew.trans g1
    have hS1 : Boxed X1 (U2.heap.size + 1) 3 (.int .i64 (N : Nat)) ∧ X1.rangeAt w.heap.size 0 [Value.int IntKind.i64 kd, Value.bool b, Value.int IntKind.i64 m, Value.float FloatKind.f64 f, Value.string tx, Value.string ty, Value.slice ai ni ci, Value.slice af nf cf] := ⟨(bX1.block _ hnb.lt).trans hnb, Row8.below hvb bX1⟩
    refine ⟨hS1, ?_⟩
    try simp only [List.getElem_toArray, List.getElem_cons_zero, List.getElem_cons_succ, Act.put, List.setIfInBounds_toArray, List.set_cons_zero, List.set_cons_succ]
    replace hS0 := hS1
    refine wpAnyH_take (i := 3) (v := ?v3) rfl (by kernel_rfl) (by kernel_rfl) (by kernel_rfl) (fun _ _ _ h => h) (Or.inl ⟨by rfl, ?hy3⟩) hS0 ?_
    case hy3 => (intro w' hw';  go_simp; try with_reducible rfl)
    simp only [List.getElem_toArray, List.getElem_cons_zero, List.getElem_cons_succ, Act.put, List.setIfInBounds_toArray, List.set_cons_zero, List.set_cons_succ]
    refine rgn.one (i := 4) _ rfl (by kernel_rfl) (by rfl) ?_
    simp only [List.getElem_toArray, List.getElem_cons_zero, List.getElem_cons_succ, Act.put, List.setIfInBounds_toArray, List.set_cons_zero, List.set_cons_succ]
    have rb1 : Boxed X1 (w.heap.size + 1) 4 (.bool false) := (bX1.block _ hrb.lt).trans hrb
    have rbc := rb1.cell
    have rbf := rb1.frozen
    have RB := hide rb1
    have HS1 := hide hS1
    have dn : w.heap.size + 1 ≠ D := by omega
    have HD1 := hide (show X1.heap[D]? = some (.deferred (some [])) from (bX1.block _ hDX).trans (unhide HD))
    have HB1 := hide (show Below w.heap.size w X1 from hbel.trans (bX1.mono hbel.size))
    clear rb1 hS1 hS0 g1 bX1 hnb hrb hvb hbel
    go_wp2_with fail
    refine ⟨⟨(unhide HS1).1.other (by omega) _, fun j q hq => ?_⟩, ?_⟩
    · refine (cell_blk ?_ _).trans ((unhide HS1).2 j q hq)
      exact Below.heap_setCell _ ⟨w.heap.size + 1, 0, none⟩ _ _ (by show w.heap.size ≠ w.heap.size + 1; omega)
    · refine wpAnyH_done (by kernel_rfl) ?_ _; refine NoPanic.normal ?_
      gi_wp2
      have hKD : (X1.setCell ⟨w.heap.size + 1, 0, none⟩ (.bool true)).heap[D]? = some (.deferred (some [])) := (Below.heap_setCell _ ⟨w.heap.size + 1, 0, none⟩ _ _ (by show D ≠ w.heap.size + 1; omega)).trans (unhide HD1)
      refine ⟨by simp, .inl ⟨_, _, rfl, run_takeDeferred hKD, ?_⟩⟩
      refine ⟨_, wg_results _ _ (w.heap.size + 1) rfl (((unhide RB).set _).kept (grownBy_putObj' _ D _) (fun e => dn (by cases e; rfl))).cell, rfl, ?_⟩
      refine ((unhide HB1).setCell (p := ⟨w.heap.size + 1, 0, none⟩) (Nat.le_succ _) _).trans ⟨rfl, rfl, rfl, by simp, fun k hk => World.putObj_heap_other (by omega)⟩
  case stop => exact fun _ _ _ _ _ _ _ h _ => h.elim
end Go.Proofs.Ythpcpminikmcbaa.og
namespace Go.Proofs.Ythpcpminikmcbaa.vl
open Go.ChangeShapes Go.WideShapes Go.ChangeAt Go.RowKit
open stp (St Pth St3)
set_option linter.unusedVariables false
set_option linter.unusedSimpArgs false
theorem wpList_loadG {P : Program} {ops : Array Oper} {rest : List Oper} {op : Oper} {a : Act} {w : World} {Q : Exit → Act → World → Prop} (hw : Region.wanted op (yielded ops a.tmps) = true) (ty : TypeId) (x : Operand) (ho : op.op = .load ty x)
    (b o : Nat) (hx : a.eval x = .pointer (some ⟨b, o, none⟩)) (cs : List Value) (d : TypeDesc) (hc : w.rangeAt b o cs) (hu : P.underlying ty = some d) (hd : d.isRow = true) (hi : (P.info? ty).map (·.size) = some cs.length)
    (h : wpList P ops Q rest (a.put op.dst (.agg cs.toArray)) w) : wpList P ops Q (op :: rest) a w :=
  wpList_step fun K hK => by rw [if_pos hw]; exact wp_load_mid ty x ho b o hx cs d hc hu hd hi (hK _ _ h)
theorem SmallI.of {l : List Vl} (h : ∀ v ∈ l, Small v) : SmallI (Vls.of l) := by
  induction l with
  | nil => simp [Vls.of, SmallI]
  | cons v r ih => simp only [Vls.of, SmallI]; exact ⟨h v (List.mem_cons_self ..), ih (fun u hu => h u (List.mem_cons_of_mem _ hu))⟩
theorem SmallF.of {l : List (ByteArray × Vl)} (h : ∀ q ∈ l, Small q.2) : SmallF (Fls.of l) := by
  induction l with
  | nil => simp [Fls.of, SmallF]
  | cons v r ih => simp only [Fls.of, SmallF]; exact ⟨h v (List.mem_cons_self ..), ih (fun u hu => h u (List.mem_cons_of_mem _ hu))⟩
theorem mem_modify {α : Type} {f : α → α} : ∀ {l : List α} {i : Nat} {y : α}, y ∈ l.modify i f → y ∈ l ∨ ∃ z ∈ l, y = f z
  | [], i, y, h => by simp at h
  | a :: r, 0, y, h => by
    simp at h
    rcases h with h | h
    · exact .inr ⟨a, List.mem_cons_self .., h⟩
    · exact .inl (List.mem_cons_of_mem _ h)
  | a :: r, i + 1, y, h => by
    simp at h
    rcases h with h | h
    · exact .inl (h ▸ List.mem_cons_self ..)
    · rcases mem_modify h with h | ⟨z, hz, h⟩
      · exact .inl (List.mem_cons_of_mem _ h)
      · exact .inr ⟨z, List.mem_cons_of_mem _ hz, h⟩
theorem Small.setS {v x : Vl} {s : St} {i : Nat} (hv : Small v) (hx : Small x) : Small (setS v s i x) := by
  obtain ⟨kd, bb, ni, f, tx, ty, its, fls⟩ := v
  unfold Small at hv
  obtain ⟨h1, h2, h3, h4, h5⟩ := hv
  simp only [vl.setS]
  split
  · unfold Small
    refine ⟨by rw [Vls.list_of, List.length_set]; exact h1, h2, h3, SmallI.of (fun u hu => ?_), h5⟩
    rcases List.mem_or_eq_of_mem_set hu with h | rfl
    · exact h4.all u h
    · exact hx
  · unfold Small
    refine ⟨h1, by rw [Fls.list_of, List.length_modify]; exact h2, h3, h4, SmallF.of (fun q hq => ?_)⟩
    rcases mem_modify hq with h | ⟨z, hz, rfl⟩
    · exact h5.all q h
    · exact hx
theorem Small.setP : ∀ {ss : List St} {v x u : Vl}, Small v → Small x → setP v ss x = some u → Small u
  | [], v, x, u, hv, hx, h => by simp only [vl.setP, Option.some.injEq] at h; rw [← h]; exact hx
  | s :: r, v, x, u, hv, hx, h => by
    simp only [vl.setP] at h
    cases hc : chI v s with
    | none => rw [hc] at h; simp at h
    | some i =>
      cases hs : vl.getS v s with
      | none => rw [hc, hs] at h; simp at h
      | some y =>
        rw [hc, hs] at h
        simp only [Option.map_eq_some_iff] at h
        obtain ⟨z, hz, rfl⟩ := h
        exact Small.setS hv (Small.setP (hv.getS hs) hx hz)
theorem Small.z0 : Small z0 := by simp [vl.z0, Small, SmallI, SmallF, Vls.list, Fls.list]
theorem same_get {v u u' : Vl} {ss : List St} {a b : Bool} (h : if a = true then getP v ss = some u else getP v ss = none ∧ u = z0) (h' : if b = true then getP v ss = some u' else getP v ss = none ∧ u' = z0) (hv : Small v) : a = b ∧ u = u' ∧ Small u := by
  cases a <;> cases b
  · simp at h h'
    exact ⟨rfl, h.2.trans h'.2.symm, h.2 ▸ Small.z0⟩
  · simp at h h'
    rw [h.1] at h'; cases h'
  · simp at h h'
    rw [h'.1] at h; cases h
  · simp at h h'
    exact ⟨rfl, Option.some.inj (h.symm.trans h'), hv.getP h⟩
theorem same_set {v x u u' : Vl} {ss : List St} {a b : Bool} (h : if a = true then setP v ss x = some u else getP v ss = none ∧ u = z0) (h' : if b = true then setP v ss x = some u' else getP v ss = none ∧ u' = z0) (hv : Small v) (hx : Small x) : a = b ∧ u = u' ∧ Small u := by
  cases a <;> cases b
  · simp at h h'
    exact ⟨rfl, h.2.trans h'.2.symm, h.2 ▸ Small.z0⟩
  · simp at h h'
    rw [setP_none x h.1] at h'; cases h'
  · simp at h h'
    rw [setP_none x h'.1] at h; cases h
  · simp at h h'
    exact ⟨rfl, Option.some.inj (h.symm.trans h'), Small.setP hv hx h⟩
end Go.Proofs.Ythpcpminikmcbaa.vl
