import Derived.Test.YtifbkdicglcogaaGreatSpl19
set_option linter.unusedVariables false
set_option linter.unusedSimpArgs false
namespace Go.Proofs.YtifbkdicglcogaaGreat.cu
open dt (Dt Kp RowAt Ow Grow)
def dlt (t : Tk) : Int := if t.k = 2 then (if t.tx = bLp ∨ t.tx = bLb ∨ t.tx = bLc then 1 else if t.tx = bRp ∨ t.tx = bRb ∨ t.tx = bRc then -1 else 0) else 0
def dpt (ts : List Tk) : Nat → Int
 | 0 => 0
 | i + 1 => dpt ts i + dlt (ts.getD i Tk.zero)
def Low (M : Nat) (ts : List Tk) (i : Nat) : Prop := ∀ j, j < i → dpt ts (j + 1) ≤ (M : Int)
def Inv (c : Cu) : Prop := (c.op : Int) = dpt c.ts c.ix
def Dd (M : Nat) (c : Cu) (e : Nat) (u : Cu) : Prop := ∃ j o, c.ix ≤ j ∧ j < e ∧ Low M c.ts j ∧ (M : Int) < dpt c.ts (j + 1) ∧ u = ⟨c.ts, j, o, M, 71⟩
def Sti {A : Type} (E : Cu → A × Cu) : Prop := ∀ c, c.kd ≠ 0 → (E c).2 = c
def Bal {A : Type} (E : Cu → A × Cu) (b : Nat) : Prop := ∀ c, c.Ok → c.ts.length ≤ b + c.ix → Inv c → c.kd = 0 → (E c).2.kd = 0 → (E c).2.op = c.op ∧ Inv (E c).2
section
variable {M b : Nat}
end
section
variable {M b : Nat}
end
open mem (decF decZ putB scB Byt posT enB)
open lx (toks chs cln tksG tkG)
section
variable {M b : Nat}
end
open mem (posT Byt)
section
variable {M b : Nat}
end
section
variable {M : Nat} (N : Nat)
end
def opS (L : Int) (i : Nat) (s : Int × Int × Int) (t : Tk) : Int × Int × Int :=
 if t.k = 2 then (s.1 + dlt t, if s.2.1 < s.1 + dlt t then s.1 + dlt t else s.2.1, if L < s.1 + dlt t ∧ s.2.2 < 0 then (i : Int) else s.2.2) else s
def ops (L : Int) (ts : List Tk) : Nat → Int × Int × Int
 | 0 => (0, 0, -1)
 | i + 1 => opS L i (ops L ts i) (ts.getD i Tk.zero)
open Go.ChangeShapes Go.WideShapes Go.ChangeAt Go.RowKit
open ints (Hi uh)
open dt (Dt Kp RowAt Ow Grow OwIn)
open mem (Row)
structure FvI (w wr : World) (vc : Array Value) : Prop where
 bel : Below w.heap.size w wr
 v : wr.heap[w.heap.size]? = some (.cells vc 99 (0, 0))
 r : wr.heap[w.heap.size + 1]? = some (.cells #[.int .i64 0, .int .i64 0] 37 (0, 0))
def EqL (pl : Bool) : Nat → Dt → Dt → Prop
 | 0, _, _ => False
 | f + 1, d, e => ∃ k tx bl its its' fls fls' ln co ln' co', d = litD k tx bl (Dt.of its) (Dt.of fls) ln co ∧ e = litD k tx bl (Dt.of its') (Dt.of fls') ln' co' ∧ (pl = true → ln = ln' ∧ co = co') ∧
   its.length = its'.length ∧ fls.length = fls'.length ∧ (∀ (i : Nat) x y, its[i]? = some x → its'[i]? = some y → EqL pl f x y) ∧
   (∀ (i : Nat) x y, fls[i]? = some x → fls'[i]? = some y → ∃ nm v v' a b a' b', x = fldD nm v a b ∧ y = fldD nm v' a' b' ∧ (pl = true → a = a' ∧ b = b') ∧ EqL pl f v v')
structure SmI (w wr : World) (vc uc : Array Value) : Prop where
 bel : Below w.heap.size w wr
 v : wr.heap[w.heap.size]? = some (.cells vc 99 (0, 0))
 u : wr.heap[w.heap.size + 1]? = some (.cells uc 99 (0, 0))
end Go.Proofs.YtifbkdicglcogaaGreat.cu
