import Derived.Test.YtjlafneklcfgoabVlH
namespace Go.Proofs.Ytjlafneklcfgoab.vl
open Go.ChangeShapes Go.WideShapes Go.ChangeAt Go.RowKit
set_option linter.unusedVariables false
set_option linter.unusedSimpArgs false
mutual
/-- lists of bearable length, all the way down -/
def Small : Vl → Prop
  | .mk kd b n f tx ty its fls => its.list.length ≤ 1256584717458 ∧ fls.list.length ≤ 1099511627776 ∧ f < 18446744073709551616 ∧ SmallI its ∧ SmallF fls
def SmallI : Vls → Prop
  | .nil => True
  | .cons v r => Small v ∧ SmallI r
def SmallF : Fls → Prop
  | .nil => True
  | .cons nm v r => Small v ∧ SmallF r
end
theorem SmallI.all : ∀ {l : Vls}, SmallI l → ∀ v ∈ l.list, Small v
  | .nil, _, v, h => by simp [Vls.list] at h
  | .cons u r, hs, v, h => by
    unfold SmallI at hs
    simp only [Vls.list, List.mem_cons] at h
    rcases h with h | h
    · rw [h]; exact hs.1
    · exact hs.2.all v h
theorem SmallF.all : ∀ {l : Fls}, SmallF l → ∀ q ∈ l.list, Small q.2
  | .nil, _, q, h => by simp [Fls.list] at h
  | .cons nm u r, hs, q, h => by
    unfold SmallF at hs
    simp only [Fls.list, List.mem_cons] at h
    rcases h with h | h
    · rw [h]; exact hs.1
    · exact hs.2.all q h
theorem each_nil (c : Nat) (w : World) : Calls Try.prog 58 #[.slice none 0 c, .func (.func 29) #[] #[]] w fun e w' => e = .returned (.slice none 0 0) ∧ w' = w := by
  have hnil : ∀ (w : World) (a : Option Addr) (n c n' c' : Nat), (binOp .eql 24 (.slice a n c) (.slice none n' c')).run Try.prog w = .ok (.bool a.isNone) w := fun w a n c n' c' => Lib.run_eql_slice_nil w _ _ a n c n' c' Try.underlying24
  go_enter Try.func58, Try.ntmps58
  go_wp2
  go_ret
  exact ⟨rfl, rfl⟩
theorem eachM_nil (c : Nat) (w : World) : Calls Try.prog 59 #[.slice none 0 c, .func (.func 60) #[] #[]] w fun e w' => e = .returned (.slice none 0 0) ∧ w' = w := by
  have hnil : ∀ (w : World) (a : Option Addr) (n c n' c' : Nat), (binOp .eql 25 (.slice a n c) (.slice none n' c')).run Try.prog w = .ok (.bool a.isNone) w := fun w a n c n' c' => Lib.run_eql_slice_nil w _ _ a n c n' c' Try.underlying25
  go_enter Try.func59, Try.ntmps59
  go_wp2
  go_ret
  exact ⟨rfl, rfl⟩
theorem each_any (l : Vls) (ih : ∀ v ∈ l.list, CopyAt v) (a : Option Addr) (n c : Nat) (w : World) (hI : VlsAt w l a n) (hn : n ≤ 1256584717458) (hnc : n ≤ c) (ha : a = none → c = 0) : Calls Try.prog 58 #[.slice a n c, .func (.func 29) #[] #[]] w fun e w' => ∃ (aj : Option Addr) (cj : Nat) (F : List Nat), e = .returned (.slice aj n cj) ∧ ((aj = none ∧ l = .nil ∧ n = 0 ∧ F = []) ∨ ∃ p G, aj = some ⟨p, 0, none⟩ ∧ F = p :: G ∧ OwsIn w' l p 0 n G) ∧ F.Nodup ∧ (∀ b ∈ F, w.heap.size ≤ b ∧ b < w'.heap.size) ∧ Below w.heap.size w w' ∧ n ≤ cj ∧ (aj = none → cj = 0) ∧ cj ≤ maxLen ∧ Fz w' F := by
  cases a with
  | none =>
    obtain rfl : n = 0 := by have := ha rfl; omega
    obtain rfl : l = .nil := by
      cases l with
      | nil => rfl
      | cons => exact absurd (VlsAt.len _ _ _ hI) (by simp [Vls.list])
    refine (each_nil c w).mono ?_
    rintro e w' ⟨rfl, rfl⟩
    exact ⟨none, 0, [], rfl, .inl ⟨rfl, rfl, rfl, rfl⟩, List.nodup_nil, by simp, Below.refl _ _, Nat.le_refl _, fun _ => rfl, Nat.zero_le _, fun b hb => by simp at hb⟩
  | some a =>
    refine (each_ok l ih a n c w hI hn).mono ?_
    rintro e w' ⟨p, G, rfl, h1, h2, h3, h4, h5⟩
    exact ⟨_, n, p :: G, rfl, .inr ⟨p, G, rfl, rfl, h1⟩, h2, h3, h4, Nat.le_refl _, fun e => (by cases e), (by unfold maxLen; omega), h5⟩
theorem eachM_any (l : Fls) (ih : ∀ q ∈ l.list, CopyAt q.2) (a : Option Addr) (n c : Nat) (w : World) (hI : FlsAt w l a n) (hn : n ≤ 1099511627776) (hnc : n ≤ c) (ha : a = none → c = 0) : Calls Try.prog 59 #[.slice a n c, .func (.func 60) #[] #[]] w fun e w' => ∃ (aj : Option Addr) (cj : Nat) (F : List Nat), e = .returned (.slice aj n cj) ∧ ((aj = none ∧ l = .nil ∧ n = 0 ∧ F = []) ∨ ∃ p G, aj = some ⟨p, 0, none⟩ ∧ F = p :: G ∧ OwfIn w' l p 0 n G) ∧ F.Nodup ∧ (∀ b ∈ F, w.heap.size ≤ b ∧ b < w'.heap.size) ∧ Below w.heap.size w w' ∧ n ≤ cj ∧ (aj = none → cj = 0) ∧ cj ≤ maxLen ∧ Fz w' F := by
  cases a with
  | none =>
    obtain rfl : n = 0 := by have := ha rfl; omega
    obtain rfl : l = .nil := by
      cases l with
      | nil => rfl
      | cons => exact absurd (FlsAt.len _ _ _ hI) (by simp [Fls.list])
    refine (eachM_nil c w).mono ?_
    rintro e w' ⟨rfl, rfl⟩
    exact ⟨none, 0, [], rfl, .inl ⟨rfl, rfl, rfl, rfl⟩, List.nodup_nil, by simp, Below.refl _ _, Nat.le_refl _, fun _ => rfl, Nat.zero_le _, fun b hb => by simp at hb⟩
  | some a =>
    refine (eachM_ok l ih a n c w hI hn).mono ?_
    rintro e w' ⟨p, G, rfl, h1, h2, h3, h4, h5⟩
    exact ⟨_, n, p :: G, rfl, .inr ⟨p, G, rfl, rfl, h1⟩, h2, h3, h4, Nat.le_refl _, fun e => (by cases e), (by unfold maxLen; omega), h5⟩
set_option maxHeartbeats 6000000 in
set_option maxRecDepth 6000 in
theorem copy_ok : ∀ v : Vl, Small v → CopyAt v := by
  refine Vl.all ?_
  intro kd bb ni f tx ty its fls ihI ihF hsm cs w hv
  unfold Small at hsm
  obtain ⟨hl1, hl2, -, hsI, hsF⟩ := hsm
  unfold VlC at hv
  obtain ⟨ai, nI, ci, af, nf, cf, rfl, hI, hF, hni, hnf, hai, haf, hk1, hk2, hk3, hk4, hci, hcf⟩ := hv
  have hmf : ∀ (fn : Fn) (first cap : Array Value) (w : World), (Instr.makeFunc fn first cap).run Try.prog w = .ok (.func fn first cap) w := fun _ _ _ _ => rfl
  go_enter Try.func29, Try.ntmps29
  go_wp2_with fail
  obtain ⟨W, eW⟩ : ∃ W, W = ((w.alloc (.cells #[.int .i64 kd, .bool bb, .int .i64 ni, .float .f64 f, .string tx, .string ty, .slice ai nI ci, .slice af nf cf] 27)).alloc (.cells #[.int .i64 0, .bool false, .int .i64 0, .float .f64 0, .string { data := #[] }, .string { data := #[] }, .slice none 0 0, .slice none 0 0] 27)) := ⟨_, rfl⟩
  have bW : Below w.heap.size w W := by rw [eW]; exact ((Below.refl _ _).alloc (Nat.le_refl _) _).alloc (by simp) _
  have hsz : W.heap.size = w.heap.size + 2 := by rw [eW]; simp
  have x0 : W.cell? ⟨w.heap.size, 0, none⟩ = some (.int .i64 kd) := by rw [eW]; simp
  have x1 : W.cell? ⟨w.heap.size, 1, none⟩ = some (.bool bb) := by rw [eW]; simp
  have x2 : W.cell? ⟨w.heap.size, 2, none⟩ = some (.int .i64 ni) := by rw [eW]; simp
  have x3 : W.cell? ⟨w.heap.size, 3, none⟩ = some (.float .f64 f) := by rw [eW]; simp
  have x4 : W.cell? ⟨w.heap.size, 4, none⟩ = some (.string tx) := by rw [eW]; simp
  have x5 : W.cell? ⟨w.heap.size, 5, none⟩ = some (.string ty) := by rw [eW]; simp
  have x6 : W.cell? ⟨w.heap.size, 6, none⟩ = some (.slice ai nI ci) := by rw [eW]; simp
  have x7 : W.cell? ⟨w.heap.size, 7, none⟩ = some (.slice af nf cf) := by rw [eW]; simp
  have xf : ∀ j, W.frozen? ⟨w.heap.size, j, none⟩ = false := by intro j; rw [eW]; simp
  have hth : W.there (w.heap.size + 1) 0 8 := by
    rw [eW]
    have h := there_new (w := w.alloc (.cells #[.int .i64 kd, .bool bb, .int .i64 ni, .float .f64 f, .string tx, .string ty, .slice ai nI ci, .slice af nf cf] 27)) (Z := #[.int .i64 0, .bool false, .int .i64 0, .float .f64 0, .string { data := #[] }, .string { data := #[] }, .slice none 0 0, .slice none 0 0]) (t := 27) (n := 8) rfl
    simpa using h
  rw [← eW]
  clear eW
  refine (each_any its (fun v hv => ihI v hv (hsI.all v hv)) ai nI ci W (VlsAt.below bW its _ _ hI) (by rw [← VlsAt.len its _ _ hI]; exact hl1) hni hai).mono ?_
  rintro e w1 ⟨aj, cj, Fi, rfl, hOI, hndI, hFI, b1, q1, q2, q3, zI⟩
  have hl : w.heap.size < W.heap.size := by omega
  have y0 := keepC b1 hl x0
  have y1 := keepC b1 hl x1
  have y2 := keepC b1 hl x2
  have y3 := keepC b1 hl x3
  have y4 := keepC b1 hl x4
  have y5 := keepC b1 hl x5
  have y6 := keepC b1 hl x6
  have y7 := keepC b1 hl x7
  have yf : ∀ j, w1.frozen? ⟨w.heap.size, j, none⟩ = false := fun j => (b1.frozen (p := ⟨w.heap.size, j, none⟩) hl).trans (xf j)
  have hO := hide hOI
  clear x0 x1 x2 x3 x4 x5 x6 x7 xf hOI
  go_wp2_with fail
  obtain ⟨w2, e2⟩ : ∃ w2, w2 = w1.setCell ⟨w.heap.size, 6, none⟩ (.slice aj nI cj) := ⟨_, rfl⟩
  have hs1 : w.heap.size < w1.heap.size := Nat.lt_of_lt_of_le hl b1.size
  have hs2 : w2.heap.size = w1.heap.size := by rw [e2]; simp
  have b2 : Below w.heap.size w w2 := by rw [e2]; exact (bW.trans (b1.mono bW.size)).setCell (p := ⟨w.heap.size, 6, none⟩) (Nat.le_refl _) _
  have u0 : w2.cell? ⟨w.heap.size, 0, none⟩ = some (.int .i64 kd) := by rw [e2, World.cell?_setCell_other _ _ _ _ (by simp)]; exact y0
  have u1 : w2.cell? ⟨w.heap.size, 1, none⟩ = some (.bool bb) := by rw [e2, World.cell?_setCell_other _ _ _ _ (by simp)]; exact y1
  have u2 : w2.cell? ⟨w.heap.size, 2, none⟩ = some (.int .i64 ni) := by rw [e2, World.cell?_setCell_other _ _ _ _ (by simp)]; exact y2
  have u3 : w2.cell? ⟨w.heap.size, 3, none⟩ = some (.float .f64 f) := by rw [e2, World.cell?_setCell_other _ _ _ _ (by simp)]; exact y3
  have u4 : w2.cell? ⟨w.heap.size, 4, none⟩ = some (.string tx) := by rw [e2, World.cell?_setCell_other _ _ _ _ (by simp)]; exact y4
  have u5 : w2.cell? ⟨w.heap.size, 5, none⟩ = some (.string ty) := by rw [e2, World.cell?_setCell_other _ _ _ _ (by simp)]; exact y5
  have u6 : w2.cell? ⟨w.heap.size, 6, none⟩ = some (.slice aj nI cj) := by rw [e2]; exact World.cell?_setCell_same _ _ _ y6
  have u7 : w2.cell? ⟨w.heap.size, 7, none⟩ = some (.slice af nf cf) := by rw [e2, World.cell?_setCell_other _ _ _ _ (by simp)]; exact y7
  have uf : ∀ j, w2.frozen? ⟨w.heap.size, j, none⟩ = false := by intro j; rw [e2]; simpa using yf j
  have hth2 : w2.there (w.heap.size + 1) 0 8 := by
    have h1 := there_below hth b1 (by omega)
    have : w2 = w1.setCells w.heap.size 6 [.slice aj nI cj] := e2
    rw [this]
    exact World.there_setCells h1 _ _ _
  have zI2 : Fz w2 Fi := by
    have : w2 = w1.setCells w.heap.size 6 [.slice aj nI cj] := e2
    rw [this]
    exact zI.setCells _ _ _
  have HzI := hide zI2
  clear zI zI2
  have ag2 : ∀ F : List Nat, w.heap.size ∉ F → Agree F w1 w2 := fun F hF => by
    have : w2 = w1.setCells w.heap.size 6 [.slice aj nI cj] := e2
    rw [this]
    exact agree_setCells w1 hF
  rw [← e2]
  clear e2 y0 y1 y2 y3 y4 y5 y6 y7 yf
  refine (eachM_any fls (fun q hq => ihF q hq (hsF.all q hq)) af nf cf w2 (FlsAt.below b2 fls _ _ hF) (by rw [← FlsAt.len fls _ _ hF]; exact hl2) hnf haf).mono ?_
  rintro e w3 ⟨ag, cg, Ff, rfl, hOF, hndF, hFF, b3, r1, r2, r3, zF⟩
  have hl2 : w.heap.size < w2.heap.size := by omega
  have z0 := keepC b3 hl2 u0
  have z1 := keepC b3 hl2 u1
  have z2 := keepC b3 hl2 u2
  have z3 := keepC b3 hl2 u3
  have z4 := keepC b3 hl2 u4
  have z5 := keepC b3 hl2 u5
  have z6 := keepC b3 hl2 u6
  have z7 := keepC b3 hl2 u7
  have zf : ∀ j, w3.frozen? ⟨w.heap.size, j, none⟩ = false := fun j => (b3.frozen (p := ⟨w.heap.size, j, none⟩) hl2).trans (uf j)
  have hOF' := hide hOF
  have HzF := hide zF
  clear zF
  clear u0 u1 u2 u3 u4 u5 u6 u7 uf hOF
  obtain ⟨L, eL⟩ : ∃ L : List Value, L = [.int .i64 kd, .bool bb, .int .i64 ni, .float .f64 f, .string tx, .string ty, .slice aj nI cj, .slice ag nf cg] := ⟨_, rfl⟩
  have hL8 : L.length = 8 := by rw [eL]; rfl
  have hth3 : (w3.setCell ⟨w.heap.size, 7, none⟩ (.slice ag nf cg)).there (w.heap.size + 1) 0 L.toArray.size := by
    simp only [List.size_toArray, hL8]
    have hsW := b1.size
    exact World.there_setCells (there_below hth2 b3 (by omega)) w.heap.size 7 [.slice ag nf cg]
  have ho8 : L.toArray.all (·.oneCell') = true := by rw [eL]; simp [Value.oneCell']
  have hrL : (w3.setCell ⟨w.heap.size, 7, none⟩ (.slice ag nf cg)).rangeAt w.heap.size 0 L := by
    intro j u hu
    rw [eL] at hu
    have hj : j < 8 := by have := (List.getElem?_eq_some_iff.1 hu).1; simpa using this
    rw [Nat.zero_add]
    rcases (by omega : j = 0 ∨ j = 1 ∨ j = 2 ∨ j = 3 ∨ j = 4 ∨ j = 5 ∨ j = 6 ∨ j = 7) with rfl | rfl | rfl | rfl | rfl | rfl | rfl | rfl
    · simp at hu; rw [← hu, World.cell?_setCell_other _ _ _ _ (by simp)]; exact z0
    · simp at hu; rw [← hu, World.cell?_setCell_other _ _ _ _ (by simp)]; exact z1
    · simp at hu; rw [← hu, World.cell?_setCell_other _ _ _ _ (by simp)]; exact z2
    · simp at hu; rw [← hu, World.cell?_setCell_other _ _ _ _ (by simp)]; exact z3
    · simp at hu; rw [← hu, World.cell?_setCell_other _ _ _ _ (by simp)]; exact z4
    · simp at hu; rw [← hu, World.cell?_setCell_other _ _ _ _ (by simp)]; exact z5
    · simp at hu; rw [← hu, World.cell?_setCell_other _ _ _ _ (by simp)]; exact z6
    · simp at hu; rw [← hu]; exact World.cell?_setCell_same _ _ _ z7
  have iL : (Try.prog.info? 27).map (·.size) = some L.length := by rw [hL8]; exact infoV
  have iL' : (Try.prog.info? 27).map (·.size) = some L.toArray.size := by simp [hL8, infoV]
  have HH := hide (And.intro hth3 (And.intro hrL (And.intro iL (And.intro iL' (And.intro hL8 eL)))))
  clear hth hth2 hth3 hrL iL iL' hL8 eL
  go_wp2_with (first
    | refine wpList_load_mid (by rfl) 27 _ (by rfl) w.heap.size 0 (by rfl) L _ (unhide HH).2.1 Try.underlying27 (by rfl) (unhide HH).2.2.1 ?_
    | refine wpList_store_mid (by rfl) 27 _ _ (by rfl) (w.heap.size + 1) 0 L.toArray (by rfl) (by rfl) (unhide HH).1 (unhide HH).2.2.2.1 ho8 ?_)
  obtain ⟨hth3, hrL, iL, iL', hL8, eL⟩ := unhide HH
  obtain ⟨w4, e4⟩ : ∃ w4, w4 = ((w3.setCell ⟨w.heap.size, 7, none⟩ (.slice ag nf cg)).setCells (w.heap.size + 1) 0 L) := ⟨_, rfl⟩
  have E4 : w4 = (w3.setCells w.heap.size 7 [.slice ag nf cg]).setCells (w.heap.size + 1) 0 L := e4
  have b4 : Below w.heap.size w3 w4 := by rw [E4]; exact below_setCells _ _ _ _ (below_setCells _ _ _ _ (Below.refl _ _) (Nat.le_refl _)) (Nat.le_succ _)
  have hs4 : w4.heap.size = w3.heap.size := by rw [E4, size_setCells, size_setCells]
  have hr4 : w4.rangeAt (w.heap.size + 1) 0 L := by rw [E4]; exact World.rangeAt_setCells_same _ _ _ _ (by have h := hth3; rw [List.size_toArray] at h; exact h)
  have ag4 : ∀ F : List Nat, (∀ b ∈ F, w.heap.size + 2 ≤ b) → Agree F w3 w4 := fun F hF => by
    rw [E4]
    exact (agree_setCells w3 (fun h => by have := hF _ h; omega)).trans (agree_setCells _ (fun h => by have := hF _ h; omega))
  refine bodyPost_ret (rgn.result_row rfl _ _ (w.heap.size + 1) 0 L _ rfl (by rw [← e4]; exact hr4) Try.underlying27 rfl iL) rfl ?_
  rw [← e4]
  have hsW := b1.size
  have gI : ∀ b ∈ Fi, w.heap.size + 2 ≤ b ∧ b < w1.heap.size := fun b hb => by have := hFI b hb; omega
  have gF : ∀ b ∈ Ff, w2.heap.size ≤ b ∧ b < w3.heap.size := hFF
  have hnI : w.heap.size ∉ Fi := fun h => by have := gI _ h; omega
  have agI : Agree Fi w1 w4 := ((ag2 Fi hnI).trans (Agree.of_below b3 (fun b hb => by have := gI b hb; omega))).trans (ag4 Fi (fun b hb => (gI b hb).1))
  have agF : Agree Ff w3 w4 := ag4 Ff (fun b hb => by have := gF b hb; omega)
  have z4 : Fz w4 (Fi ++ Ff) := by
    rw [E4]
    exact ((((unhide HzI).below b3 (fun b hb => by have := gI b hb; omega)).app (unhide HzF)).setCells _ _ _).setCells _ _ _
  refine ⟨L, Fi ++ Ff, rfl, ?_, ?_, ?_, ?_, z4⟩
  · unfold OwC
    refine ⟨aj, nI, cj, ag, nf, cg, Fi, Ff, eL, ?_, ?_, q1, r1, q2, r2, hk1, hk2, hk3, hk4, q3, r3, rfl⟩
    · rcases unhide hO with h | ⟨p, G, h1, rfl, h2⟩
      · exact .inl h
      · exact .inr ⟨p, G, h1, rfl, OwsIn.agree its p 0 nI G agI h2⟩
    · rcases unhide hOF' with h | ⟨p, G, h1, rfl, h2⟩
      · exact .inl h
      · exact .inr ⟨p, G, h1, rfl, OwfIn.agree fls p 0 nf G agF h2⟩
  · rw [List.nodup_append]
    exact ⟨hndI, hndF, fun x hx y hy e => by have h1 := (gI x hx).2; have h2 := (gF y hy).1; omega⟩
  · intro b hb
    have hs3 := b3.size
    rcases List.mem_append.1 hb with h | h
    · have := gI b h; omega
    · have := gF b h; omega
  · exact (b2.trans (b3.mono b2.size)).trans b4
end Go.Proofs.Ytjlafneklcfgoab.vl
