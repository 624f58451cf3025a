import Derived.Test.YtlgmonphhimbdaaDoorTbr
namespace Go.Proofs.YtlgmonphhimbdaaDoor.tab
open Go.ChangeShapes Go.WideShapes Go.ChangeAt Go.RowKit Go.Maps Go.Shelf
set_option linter.unusedVariables false
set_option linter.unusedSimpArgs false
/-- a script of calls, to be read -/
def Scr (w : World) (a : Option Addr) (n : Nat) : Prop :=
  n = 0 ∨ ∃ b off, a = some ⟨b, off, none⟩ ∧ b < w.heap.size ∧ ∀ i, i < n → ∃ kd K V : Int, InR K ∧ w.cell? ⟨b, off + i * 3, none⟩ = some (.int .i64 kd) ∧ w.cell? ⟨b, off + i * 3 + 1, none⟩ = some (.int .i64 K) ∧ w.cell? ⟨b, off + i * 3 + 2, none⟩ = some (.int .i64 V)
theorem new_tb (w : World) : Calls Tryd.prog 4 #[] w fun e w' => e = .returned (.pointer (some ⟨w.heap.size, 0, none⟩)) ∧ w' = w.alloc (.cells #[.slice none 0 0, .map none, .int .i64 0] 40) := new_ord w
theorem tb_new (w : World) (B : Nat) (hB : B ≤ w.heap.size) : Tb (w.alloc (.cells #[.slice none 0 0, .map none, .int .i64 0] 40)) B (fun k => k = w.heap.size) w.heap.size none [] 0 := by
  refine ⟨fun k hk => by simp; omega, fun k hk => .inr (by subst hk; exact ⟨_, _, _, World.alloc_heap_new w _⟩), rfl, by simp, fun i => by simp, ⟨.slice none 0 0, by simp, none, 0, rfl, Nat.le_refl _, by decide, .inl ⟨rfl, rfl⟩⟩, .inl ⟨rfl, rfl, rfl, by simp, by simp⟩, by simp, fun k l r r' _ hk => by simp at hk, fun r hr => by cases hr⟩
theorem rel_one (s : Int) (k v : Int) (hk : InR k) : Rel [(s, nm k, v)] [(k, v)] := ⟨rfl, fun p hp => by simp at hp; subst hp; exact hk⟩
theorem put_first' (k v : Int) : putR [] 0 (nm k) v = [(0, nm k, v)] := by simp [putR, gtR]
theorem nx_first (k : Int) : nxR [] 0 (nm k) = 1 := by simp [nxR, gtR]
theorem gt_first (k : Int) : (gtR [] (nm k)).isSome = false := by simp [gtR]
theorem nm1 : nm (-1) = ⟨#[107, 45, 49]⟩ := by
  simp [nm, Lib.itoa, Lib.decDigits_one]
  rfl
theorem nm2 : nm (-2) = ⟨#[107, 45, 50]⟩ := by
  simp [nm, Lib.itoa, Lib.decDigits_one]
  rfl
theorem rl_lit (w : World) (x y : Int) (t : TypeId) : RL (w.alloc (.cells #[.int .i64 x, .int .i64 y] t)) (fun j => j = w.heap.size) (.slice (some ⟨w.heap.size, 0, none⟩) 1 1) [(x, y)] := by
  refine ⟨_, 1, rfl, .inr ⟨w.heap.size, rfl, by simp, rfl, fun j u hu => ?_⟩⟩
  match j, hu with
  | 0, hu => simp [flat2, encP] at hu; subst hu; simp
  | 1, hu => simp [flat2, encP] at hu; subst hu; simp
  | (j + 2), hu => simp [flat2, encP] at hu
def bnd : Nat → Nat
  | 0 => 1
  | i + 1 => bnd i + 1048577
/-- what the loop of TreeTable keeps -/
structure TtI (w : World) (i : Nat) (W : World) (bx by_ : Nat) (vl vm : Value) (X Y : Nat → Prop) (Mx My : Option Nat) (rx ry : List Rw) (nx ny : Nat) (px py : List Pr) : Prop where
  bel : Below w.heap.size w W
  tx : Tb W w.heap.size X bx Mx rx nx
  ty : Tb W w.heap.size Y by_ My ry ny
  sx : Rel rx px
  sy : Rel ry py
  lx : RL W (fun j => ¬ X j ∧ ¬ Y j) vl px
  ly : RL W (fun j => ¬ X j ∧ ¬ Y j) vm py
  dis : ∀ j, X j → ¬ Y j
  nx1 : nx ≤ bnd i
  ny1 : ny ≤ bnd i
  px1 : px.length ≤ i + 1
  py1 : py.length ≤ i + 1
theorem TtI.swap {w W : World} {i bx by_ : Nat} {vl vm : Value} {X Y : Nat → Prop} {Mx My : Option Nat} {rx ry : List Rw} {nx ny : Nat} {px py : List Pr} (h : TtI w i W bx by_ vl vm X Y Mx My rx ry nx ny px py) : TtI w (i + 1) W by_ bx vm vl Y X My Mx ry rx ny nx py px :=
  ⟨h.bel, h.ty, h.tx, h.sy, h.sx, h.ly.mono (fun j _ hj => ⟨hj.2, hj.1⟩), h.lx.mono (fun j _ hj => ⟨hj.2, hj.1⟩), fun j h1 h2 => h.dis j h2 h1, Nat.le_trans h.ny1 (Nat.le_add_right _ _), Nat.le_trans h.nx1 (Nat.le_add_right _ _), by have := h.py1; omega, by have := h.px1; omega⟩
theorem TtI.step {w W W' : World} {i bx by_ : Nat} {vl vm v' : Value} {X Y X' : Nat → Prop} {Mx My M' : Option Nat} {rx ry r' : List Rw} {nx ny n' : Nat} {px py p' : List Pr} (h : TtI w i W bx by_ vl vm X Y Mx My rx ry nx ny px py)
    (t' : Tb W' w.heap.size X' bx M' r' n') (s' : Rel r' p') (l' : RL W' (fun j => (j < W.heap.size → ¬ X j ∧ ¬ Y j) ∧ ¬ X' j) v' p') (pl : p'.length ≤ px.length + 1) (nl : n' ≤ nx + 1048577) (x' : ∀ j, X' j → X j ∨ W.heap.size ≤ j) (k' : Kx X W W') : TtI w (i + 1) W' bx by_ v' vm X' Y M' My r' ry n' ny p' py := by
  have yX : ∀ j, Y j → ¬ X j := fun j hy hx => h.dis j hx hy
  have ylt : ∀ j, Y j → j < W.heap.size := h.ty.lt'
  have dis' : ∀ j, X' j → ¬ Y j := fun j hx hy => (x' j hx).elim (fun h1 => h.dis j h1 hy) (fun h1 => by have := ylt j hy; omega)
  refine ⟨h.bel.trans (k'.below h.bel.size (fun j hj => (h.tx.lo j hj).1)), t', h.ty.kx k' yX, s', h.sy, l'.mono (fun j h1 h2 => ⟨h2.2, fun hy => (h2.1 (ylt j hy)).2 hy⟩), (((h.ly.mono (N' := fun j => (¬ X j ∧ ¬ X' j) ∧ ¬ Y j) (fun j h1 h2 => ⟨⟨h2.1, fun hx => (x' j hx).elim h2.1 (fun h3 => by omega)⟩, h2.2⟩)).move k'.size (fun j h1 h2 => k'.block j h1 h2.1.1)).mono (fun j _ h2 => ⟨h2.1.2, h2.2⟩)), dis', Nat.le_trans nl (Nat.add_le_add_right h.nx1 _), Nat.le_trans h.ny1 (Nat.le_add_right _ _), by have := h.px1; omega, by have := h.py1; omega⟩
end Go.Proofs.YtlgmonphhimbdaaDoor.tab
