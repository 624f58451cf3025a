import Derived.Test.YtfjoaifcfmcnfabGreatDoorJoQ
namespace Go.Proofs.YtfjoaifcfmcnfabGreatDoor.jsn
open Go.ChangeShapes Go.WideShapes Go.ChangeAt Go.RowKit
open mem vl Go.Maps
open ints (hide unhide)
set_option linter.unusedVariables false
/-- the numbers that a value may have, and their texts -/
structure Nums where
  pI : Int → Prop
  wt : Int → List UInt8
  pF : Nat → Prop
  ft : Nat → List UInt8
/-- the calls that write numbers answer these texts -/
structure Nums.Ok (N : Nums) : Prop where
  whole : ∀ n w, N.pI n → Calls Tryz.prog 31 #[.int .i64 n] w fun e w' => e = .returned (.string ⟨(N.wt n).toArray⟩) ∧ Below w.heap.size w w'
  float : ∀ f w, N.pF f → Calls Tryz.prog 43 #[.float .f64 f] w fun e w' => e = .returned (.string ⟨(N.ft f).toArray⟩) ∧ Below w.heap.size w w'
  some_ : ∀ f, N.pF f → (⟨(N.ft f).toArray⟩ : ByteArray) ≠ ⟨#[]⟩
def nmAt (fls : Fls) (i : Nat) : List UInt8 := (fls.list.getD i (⟨#[]⟩, .mk 0 false 0 0 ⟨#[]⟩ ⟨#[]⟩ .nil .nil)).1.data.toList
mutual
/-- the text of a value that is sound -/
def js (N : Nums) : Vl → List UInt8
  | .mk kd b n f tx ty its fls =>
    if kd = 0 then [110, 117, 108, 108]
    else if kd = 1 then (if b then [116, 114, 117, 101] else [102, 97, 108, 115, 101])
    else if kd = 2 then N.wt n
    else if kd = 3 then N.ft f
    else if kd = 4 then txt tx.data.toList
    else if kd = 5 then [91] ++ partsL (jsL N its) its.list.length ++ [93]
    else [123] ++ partsO (nmAt fls) (jsF N fls) fls.list.length ++ [125]
def jsL (N : Nums) : Vls → Nat → List UInt8
  | .nil, _ => []
  | .cons v r, i => if i = 0 then js N v else jsL N r (i - 1)
def jsF (N : Nums) : Fls → Nat → List UInt8
  | .nil, _ => []
  | .cons nm v r, i => if i = 0 then js N v else jsF N r (i - 1)
end
mutual
/-- a value that may be written -/
def okV (N : Nums) : Vl → Prop
  | .mk kd b n f tx ty its fls =>
    kd = 0 ∨ kd = 1 ∨ (kd = 2 ∧ N.pI n) ∨ (kd = 3 ∧ N.pF f) ∨ (kd = 4 ∧ cln tx = true) ∨ (kd = 5 ∧ okL N its) ∨ (kd = 6 ∧ (∀ p ∈ fls.list, cln p.1 = true) ∧ (nms fls).Nodup ∧ okF N fls)
def okL (N : Nums) : Vls → Prop
  | .nil => True
  | .cons v r => okV N v ∧ okL N r
def okF (N : Nums) : Fls → Prop
  | .nil => True
  | .cons nm v r => okV N v ∧ okF N r
end
theorem jsL_at (N : Nums) : ∀ (its : Vls) (i : Nat) (v : Vl), its.list[i]? = some v → jsL N its i = js N v
  | .nil, i, v, h => by simp [Vls.list] at h
  | .cons u r, i, v, h => by
    unfold jsL
    by_cases h0 : i = 0
    · subst h0
      simp [Vls.list] at h
      rw [if_pos rfl, h]
    · rw [if_neg h0]
      obtain ⟨j, rfl⟩ : ∃ j, i = j + 1 := ⟨i - 1, by omega⟩
      simp [Vls.list] at h
      exact jsL_at N r j v h
theorem jsF_at (N : Nums) : ∀ (fls : Fls) (i : Nat) (p : ByteArray × Vl), fls.list[i]? = some p → jsF N fls i = js N p.2
  | .nil, i, p, h => by simp [Fls.list] at h
  | .cons nm u r, i, p, h => by
    unfold jsF
    by_cases h0 : i = 0
    · subst h0
      simp [Fls.list] at h
      rw [if_pos rfl, ← h]
    · rw [if_neg h0]
      obtain ⟨j, rfl⟩ : ∃ j, i = j + 1 := ⟨i - 1, by omega⟩
      simp [Fls.list] at h
      exact jsF_at N r j p h
theorem okL_at (N : Nums) : ∀ (its : Vls), okL N its → ∀ v ∈ its.list, okV N v
  | .nil, h, v, hv => by simp [Vls.list] at hv
  | .cons u r, h, v, hv => by
    unfold okL at h
    simp only [Vls.list, List.mem_cons] at hv
    rcases hv with rfl | hv
    · exact h.1
    · exact okL_at N r h.2 v hv
theorem okF_at (N : Nums) : ∀ (fls : Fls), okF N fls → ∀ p ∈ fls.list, okV N p.2
  | .nil, h, v, hv => by simp [Fls.list] at hv
  | .cons nm u r, h, v, hv => by
    unfold okF at h
    simp only [Fls.list, List.mem_cons] at hv
    rcases hv with rfl | hv
    · exact h.1
    · exact okF_at N r h.2 v hv
theorem str_list (l : List UInt8) : (⟨l.toArray⟩ : ByteArray).data.toList = l := by simp
theorem str_size (l : List UInt8) : (⟨l.toArray⟩ : ByteArray).size = l.length := by show l.toArray.size = _; simp
theorem bool_ok (k : Nat) (cap : Array Value) (B : Nat) (I : List UInt8 → World → Prop) (G : World → World → Prop) (hP : Pen k cap B I G) (b : Bool) (l : List UInt8) (w : World) (hI : I l w) (hl : l.length + (if b then [116, 114, 117, 101] else [102, 97, 108, 115, 101] : List UInt8).length ≤ 70368744177664) :
    Calls Tryz.prog 30 #[.bool b, .func (.func k) #[] cap] w fun e w' => e = .returned (.tuple #[]) ∧ I (l ++ (if b then [116, 114, 117, 101] else [102, 97, 108, 115, 101])) w' ∧ G w w' := by
  have en := hP.enters
  cases b
  · go_enter Tryz.func30, Tryz.ntmps30
    go_wp2_with fail
    refine (hP.lays l ⟨#[102, 97, 108, 115, 101]⟩ w hI hl).mono ?_
    rintro e w1 ⟨rfl, i1, b1⟩
    go_wp2
    go_end0
    exact ⟨rfl, i1, b1⟩
  · go_enter Tryz.func30, Tryz.ntmps30
    go_wp2_with fail
    refine (hP.lays l ⟨#[116, 114, 117, 101]⟩ w hI hl).mono ?_
    rintro e w1 ⟨rfl, i1, b1⟩
    go_wp2
    go_end0
    exact ⟨rfl, i1, b1⟩
theorem toList_nil (S : ByteArray) (h : S.toList = []) : S = ⟨#[]⟩ := by
  rw [ByteArray.toList_eq] at h
  cases S with
  | mk d => simp at h; rw [h]
theorem float_ok (N : Nums) (hN : N.Ok) (k : Nat) (cap : Array Value) (B : Nat) (I : List UInt8 → World → Prop) (G : World → World → Prop) (hP : Pen k cap B I G) (f : Nat) (hf : N.pF f) (l : List UInt8) (w : World) (hI : I l w) (hl : l.length + (N.ft f).length ≤ 70368744177664) :
    Calls Tryz.prog 32 #[.float .f64 f, .func (.func k) #[] cap] w fun e w' => e = .returned (.tuple #[]) ∧ I (l ++ N.ft f) w' ∧ G w w' := by
  have en := hP.enters
  have F := hide (hN.float f w hf)
  have hne := hN.some_ f hf
  have hs := str_size (N.ft f)
  obtain ⟨S, hS⟩ : ∃ S, S = (⟨(N.ft f).toArray⟩ : ByteArray) := ⟨_, rfl⟩
  have hsl := hide (show S.data.toList = N.ft f by rw [hS])
  rw [← hS] at F hne hs
  clear hS
  have hne2 : S.toList.isEmpty = false := by
    cases h : S.toList with
    | nil => exact absurd (toList_nil S h) hne
    | cons => rfl
  have hlow := hP.low _ _ hI
  go_enter Tryz.func32, Tryz.ntmps32
  go_wp2_with fail
  refine (unhide F).mono ?_
  rintro e w1 ⟨rfl, b1⟩
  have i1 := hide (hP.keep _ _ _ hI b1)
  clear F
  go_wp2_with fail
  refine (hP.lays l S _ (unhide i1) (by omega)).mono ?_
  rintro e w2 ⟨rfl, i2, b2⟩
  go_wp2
  go_end0
  rw [unhide hsl] at i2
  exact ⟨rfl, i2, hP.gtrans (hP.gnew hlow b1) b2⟩
set_option maxHeartbeats 8000000 in
set_option maxRecDepth 100000 in
theorem value_ok (N : Nums) (hN : N.Ok) (k : Nat) (cap : Array Value) (I : List UInt8 → World → Prop) (w0 : World) (hP : Pen k cap w0.heap.size I (Fr w0.heap.size)) : ∀ v : Vl, okV N v → CH k cap I w0 v (js N v) := by
  refine Vl.all ?_
  intro kd b n f tx ty its fls ihI ihF hok cs w l hv hb hI hl
  unfold VlC at hv
  obtain ⟨ai, ni, ci, af, nf, cf, rfl, hvI, hvF, hni, hnf, -, -, -, -, htx, -, hci, hcf⟩ := hv
  have en := hP.enters
  have hsf := storeF
  have hlow := hP.low _ _ hI
  have hnew : Below w.heap.size w (w.alloc (.cells #[.int .i64 kd, .bool b, .int .i64 n, .float .f64 f, .string tx, .string ty, .slice ai ni ci, .slice af nf cf] 29)) := (Below.refl _ _).alloc (Nat.le_refl _) _
  have hI2 := hide (hP.keep _ _ _ hI hnew)
  have f2 := Fr.new hlow hnew
  clear hnew
  unfold okV at hok
  obtain ⟨T, hT⟩ : ∃ T, T = js N (.mk kd b n f tx ty its fls) := ⟨_, rfl⟩
  rw [← hT] at hl ⊢
  unfold js at hT
  rcases hok with rfl | rfl | ⟨rfl, hp⟩ | ⟨rfl, hp⟩ | ⟨rfl, hc⟩ | ⟨rfl, hL⟩ | ⟨rfl, hc, hd, hF⟩
  · -- null
    have hT1 : T = [110, 117, 108, 108] := hT
    have HT := hide hT1
    clear hT hT1
    have hl' : l.length + 4 ≤ 70368744177664 := by have := congrArg List.length (unhide HT); simp at this; omega
    go_enter Tryz.func19, Tryz.ntmps19
    go_wp2_with fail
    refine (hP.lays l ⟨#[110, 117, 108, 108]⟩ _ (unhide hI2) hl').mono ?_
    rintro e w1 ⟨rfl, i1, f1⟩
    go_wp2
    go_end0
    exact ⟨rfl, by rw [unhide HT]; exact i1, f2.trans f1⟩
  · -- a bool
    have hT1 : T = (if b then [116, 114, 117, 101] else [102, 97, 108, 115, 101]) := hT
    have HT := hide hT1
    clear hT hT1
    have hl' := hl
    rw [unhide HT] at hl'
    have Q := hide (bool_ok k cap _ I _ hP b l _ (unhide hI2) hl')
    rw [← unhide HT] at Q
    clear hl'
    go_enter Tryz.func19, Tryz.ntmps19
    go_wp2_with fail
    refine (unhide Q).mono ?_
    rintro e w1 ⟨rfl, i1, f1⟩
    go_wp2
    go_end0
    exact ⟨rfl, i1, f2.trans f1⟩
  · -- a whole number
    have W := hide (fun w' => hN.whole n w' hp)
    have hs := str_size (N.wt n)
    have hT1 : T = N.wt n := hT
    have HT := hide hT1
    clear hT hT1
    have hl' : l.length + (N.wt n).length ≤ 70368744177664 := by rw [← unhide HT]; exact hl
    go_enter Tryz.func19, Tryz.ntmps19
    go_wp2_with fail
    refine (unhide W _).mono ?_
    rintro e w1 ⟨rfl, b1⟩
    clear W
    have i1 := hide (hP.keep _ _ _ (unhide hI2) b1)
    go_wp2_with fail
    refine (hP.lays l ⟨(N.wt n).toArray⟩ _ (unhide i1) (by omega)).mono ?_
    rintro e w2 ⟨rfl, i2, f3⟩
    go_wp2
    go_end0
    exact ⟨rfl, by rw [unhide HT]; exact i2, (f2.trans (Fr.new (hP.low _ _ (unhide hI2)) b1)).trans f3⟩
  · -- a float
    have hT1 : T = N.ft f := hT
    have HT := hide hT1
    clear hT hT1
    have hl' : l.length + (N.ft f).length ≤ 70368744177664 := by rw [← unhide HT]; exact hl
    go_enter Tryz.func19, Tryz.ntmps19
    go_wp2_with fail
    refine (float_ok N hN k cap _ I _ hP f hp l _ (unhide hI2) hl').mono ?_
    rintro e w1 ⟨rfl, i1, f1⟩
    go_wp2
    go_end0
    exact ⟨rfl, by rw [unhide HT]; exact i1, f2.trans f1⟩
  · -- a text
    have hT1 : T = txt tx.data.toList := hT
    have HT := hide hT1
    clear hT hT1
    have hl' : l.length + (txt tx.data.toList).length ≤ 70368744177664 := by rw [← unhide HT]; exact hl
    have U := hide (fun W => unclean_ok tx W (by unfold maxLen at htx; omega) hc)
    go_enter Tryz.func19, Tryz.ntmps19
    go_wp2_with fail
    refine (unhide U _).mono ?_
    rintro e w1 ⟨rfl, b1⟩
    clear U
    have i1 := hide (hP.keep _ _ _ (unhide hI2) b1)
    have x4 : w1.cell? ⟨w.heap.size, 4, none⟩ = some (.string tx) := by
      rw [b1.cell (p := ⟨w.heap.size, 4, none⟩) (by simp)]
      simp
    go_wp2_with fail
    refine (layText_any k cap _ I _ hP l tx _ (unhide i1) hl').mono ?_
    rintro e w2 ⟨rfl, i2, f3⟩
    go_wp2
    go_end0
    exact ⟨rfl, by rw [unhide HT]; exact i2, (f2.trans (Fr.new (hP.low _ _ (unhide hI2)) b1)).trans f3⟩
  · -- a list
    have hlen := VlsAt.len its _ _ hvI
    have hT1 : T = [91] ++ partsL (jsL N its) its.list.length ++ [93] := hT
    have HT := hide hT1
    clear hT hT1
    have hl' : l.length + ([91] ++ partsL (jsL N its) its.list.length ++ [93]).length ≤ 70368744177664 := by rw [← unhide HT]; exact hl
    rw [hlen] at hl'
    simp only [List.length_append, List.length_cons, List.length_nil] at hl'
    have hn2 : ni ≤ 70368744177664 := by
      have : ni ≤ (partsL (jsL N its) ni).length + 1 := by
        have h1 : ∀ m, m ≤ (partsL (jsL N its) m).length + 1 := by
          intro m
          induction m with
          | zero => omega
          | succ m ih =>
            simp only [partsL, List.length_append]
            unfold com
            split
            · omega
            · simp only [List.length_cons, List.length_nil]; omega
        exact h1 ni
      omega
    have Q := hide (list_ok k cap I w0 hP its ai ni ci hvI hni hn2 (jsL N its) (fun i v hg => by rw [jsL_at N its i v hg]; exact ihI v (List.mem_of_getElem? hg) (okL_at N its hL v (List.mem_of_getElem? hg))) _ l (hb.trans f2.bel) (unhide hI2) (by omega))
    clear ihI ihF hL
    go_enter Tryz.func19, Tryz.ntmps19
    go_wp2_with fail
    refine (unhide Q).mono ?_
    rintro e w1 ⟨rfl, i1, f1⟩
    go_wp2
    go_end0
    refine ⟨rfl, ?_, f2.trans f1⟩
    rw [unhide HT, hlen]
    simpa only [List.append_assoc] using i1
  · -- an object
    have hlen := FlsAt.len fls _ _ hvF
    have hT1 : T = [123] ++ partsO (nmAt fls) (jsF N fls) fls.list.length ++ [125] := hT
    have HT := hide hT1
    clear hT hT1
    have hl' : l.length + ([123] ++ partsO (nmAt fls) (jsF N fls) fls.list.length ++ [125]).length ≤ 70368744177664 := by rw [← unhide HT]; exact hl
    rw [hlen] at hl'
    simp only [List.length_append, List.length_cons, List.length_nil] at hl'
    have hn2 : nf ≤ 70368744177664 := by
      have : nf ≤ (partsO (nmAt fls) (jsF N fls) nf).length := by
        have h1 : ∀ m, m ≤ (partsO (nmAt fls) (jsF N fls) m).length := by
          intro m
          induction m with
          | zero => omega
          | succ m ih =>
            simp only [partsO, List.length_append, List.length_cons, List.length_nil]
            omega
        exact h1 nf
      omega
    have M := hide (fun W hW => names_ok fls af nf cf W (FlsAt.below hW fls _ _ hvF) hn2 hnf hc hd)
    have Q := hide (fun w' l hb hI hl => obj_ok k cap I w0 hP fls af nf cf hvF hnf hn2 (nmAt fls) (jsF N fls) (fun i p hg => ⟨by simp [nmAt, List.getD, hg], by rw [jsF_at N fls i p hg]; exact ihF p (List.mem_of_getElem? hg) (okF_at N fls hF p (List.mem_of_getElem? hg))⟩) w' l hb hI hl)
    clear ihI ihF hF hc hd
    go_enter Tryz.func19, Tryz.ntmps19
    go_wp2_with fail
    refine (unhide M _ (hb.trans f2.bel)).mono ?_
    rintro e w1 ⟨rfl, b1⟩
    clear M
    have i1 := hP.keep _ _ _ (unhide hI2) b1
    have f3 := f2.trans (Fr.new (hP.low _ _ (unhide hI2)) b1)
    have q2 := hide (unhide Q w1 l (hb.trans f3.bel) i1 (by omega))
    clear Q
    have x7 : w1.cell? ⟨w.heap.size, 7, none⟩ = some (.slice af nf cf) := by
      rw [b1.cell (p := ⟨w.heap.size, 7, none⟩) (by simp)]
      simp
    go_wp2_with fail
    refine (unhide q2).mono ?_
    rintro e w2 ⟨rfl, i2, f4⟩
    go_wp2
    go_end0
    refine ⟨rfl, ?_, f3.trans f4⟩
    rw [unhide HT, hlen]
    simpa only [List.append_assoc] using i2
end Go.Proofs.YtfjoaifcfmcnfabGreatDoor.jsn
