import Derived.Test.YtifbkdicglcogaaGreatSpl20
set_option linter.unusedVariables false
set_option linter.unusedSimpArgs false
namespace Go.Proofs.YtifbkdicglcogaaGreat.cu
open Go.ChangeShapes Go.WideShapes Go.ChangeAt Go.RowKit
open ints (Hi uh)
open dt (Dt Kp RowAt Ow Grow OwIn)
open mem (Row)
def EqLs (R : Dt → Dt → Prop) (l l' : List Dt) : Prop := l.length = l'.length ∧ ∀ (i : Nat) x y, l[i]? = some x → l'[i]? = some y → R x y
def EqA (pl : Bool) (f : Nat) (x y : Dt) : Prop := ∃ nm v v' a b a' b', x = fldD nm v a b ∧ y = fldD nm v' a' b' ∧ (pl = true → a = a' ∧ b = b') ∧ EqL pl f v v'
def EqR (pl : Bool) (f : Nat) (x y : Dt) : Prop := ∃ nm l l' a b a' b', x = dirD nm l a b ∧ y = dirD nm l' a' b' ∧ (pl = true → a = a' ∧ b = b') ∧ EqLs (EqA pl f) l l'
def Ls (w : World) (k : Nat) (l : List Dt) (a : Option Addr) (F : List Nat) : Prop := l = [] ∨ ∃ p off, a = some ⟨p, off, none⟩ ∧ p ∈ F ∧ ∀ (i : Nat) e, l[i]? = some e → ∃ ds G, RowAt w p (off + i * k) ds ∧ ds.length = k ∧ Ow w e ds G ∧ ∀ b ∈ G, b ∈ F
theorem Ls.mono {w : World} {k : Nat} {l : List Dt} {a : Option Addr} {F F' : List Nat} (h : Ls w k l a F) (hF : ∀ b ∈ F, b ∈ F') : Ls w k l a F' := by
 rcases h with h | ⟨p, off, ha, hp, h⟩
 ·exact .inl h
 ·refine .inr ⟨p, off, ha, hF p hp, fun i e he => ?_⟩
  obtain ⟨ds, G, h1, h2, h3, h4⟩ := h i e he
  exact ⟨ds, G, h1, h2, h3, fun b hb => hF b (h4 b hb)⟩
theorem lst_ls {w : World} {k n : Nat} {l : List Dt} {a : Option Addr} {F : List Nat} (h : (a = none ∧ Dt.of l = .nil ∧ n = 0 ∧ F = []) ∨ ∃ p G, a = some ⟨p, 0, none⟩ ∧ F = p :: G ∧ OwIn w (Dt.of l) k p 0 n G) : n = l.length ∧ Ls w k l a F := by
 rcases h with ⟨h1, h2, h3, h4⟩ | ⟨p, G, h1, rfl, h3⟩
 ·have : l = [] := by
   cases l with
   | nil => rfl
   | cons e r => simp [Dt.of] at h2
  exact ⟨by rw [this, h3]; rfl, .inl this⟩
 ·obtain ⟨h4, h5⟩ := dt.OwIn.get l k p 0 n G h3
  refine ⟨h4.symm, .inr ⟨p, 0, h1, List.mem_cons_self .., fun i e he => ?_⟩⟩
  obtain ⟨cs, Gi, h6, h7, h8, h9⟩ := h5 i e he
  exact ⟨cs, Gi, h6, h7, h8, fun b hb => List.mem_cons_of_mem _ (h9 b hb)⟩
open dt (Dt Kp RowAt Ow Grow)
def EqT (pl : Bool) (t t' : Tk) : Prop := t'.k = t.k ∧ t'.tx = t.tx ∧ t'.va = t.va ∧ (pl = true → t.ln = t'.ln ∧ t.co = t'.co)
structure Sf (pl : Bool) (m s e : Nat) (c c' : Cu) : Prop where
 ix : c'.ix = c.ix + s
 op : c'.op = c.op + e
 mo : c'.mo = c.mo + e
 kd : c'.kd = c.kd
 tk : ∀ i, i ≤ m → EqT pl (c.ts.getD i Tk.zero) (c'.ts.getD (i + s) Tk.zero)
def Ps {A : Type} (e : Nat) (c : Cu) (E : Cu → A × Cu) : Prop := e = 0 ∨ (Inv c ∧ c.kd = 0 ∧ (E c).2.kd = 0)
section
variable {pl : Bool} {m s e : Nat}
end
section
variable {pl : Bool} {m s e : Nat} {P : Prop} {b b' : Nat}
end
section
variable {pl : Bool} {m s e : Nat} {P : Prop} {b b' : Nat}
end
section
variable {pl : Bool} {m s e : Nat} {P : Prop} {b b' : Nat} {f : Nat} {L L' : LitR}
end
open lx (toks chs cln tksG tkG)
section
variable {pl : Bool} {m s e : Nat} {P : Prop} {b b' : Nat} {f : Nat} {L L' K K' : LitR}
end
def EqNm (pl : Bool) (x y : Nm) : Prop := x.1 = y.1 ∧ (pl = true → x.2.1 = y.2.1 ∧ x.2.2 = y.2.2)
def EqN (pl : Bool) (x y : Dt) : Prop := ∃ a b : Nm, x = namD a ∧ y = namD b ∧ EqNm pl a b
def EqI (pl : Bool) (f : Nat) (x y : Dt) : Prop := ∃ n m m' tn tw hd v v' ds ds', x = inpD n m tn tw hd v ds ∧ y = inpD n m' tn tw hd v' ds' ∧ EqNm pl m m' ∧ EqL pl f v v' ∧ EqLs (EqR pl f) ds ds'
def EqFd (pl : Bool) (f : Nat) (x y : Dt) : Prop := ∃ n m m' al al' tn tw ds ds', x = fdD n m al tn tw ds ∧ y = fdD n m' al' tn tw ds' ∧ EqNm pl m m' ∧ EqLs (EqI pl f) al al' ∧ EqLs (EqR pl f) ds ds'
def EqC (pl : Bool) (f : Nat) (x y : Dt) : Prop := ∃ n m m' ds ds', x = choD n m ds ∧ y = choD n m' ds' ∧ EqNm pl m m' ∧ EqLs (EqR pl f) ds ds'
def EqRt (pl : Bool) (x y : Dt) : Prop := ∃ k ty a b a' b', x = rooD k ty a b ∧ y = rooD k ty a' b' ∧ (pl = true → a = a' ∧ b = b')
structure EqY (pl : Bool) (f : Nat) (s s' : Sy) : Prop where
 k : s.k = s'.k
 ex : s.ex = s'.ex
 n : s.n = s'.n
 nm : s.nm = s'.nm
 ifs : EqLs (EqN pl) s.ifs s'.ifs
 ds : EqLs (EqR pl f) s.ds s'.ds
 fs : EqLs (EqFd pl f) s.fs s'.fs
 ins : EqLs (EqI pl f) s.ins s'.ins
 ms : EqLs (EqN pl) s.ms s'.ms
 vs : EqLs (EqC pl f) s.vs s'.vs
 rs : EqLs (EqRt pl) s.rs s'.rs
 rp : s.rp = s'.rp
 ps : EqLs (EqN pl) s.ps s'.ps
 pos : pl = true → s.ln = s'.ln ∧ s.co = s'.co
section
variable {pl : Bool} {m s e : Nat} {P : Prop} {b b' : Nat}
end
section
variable {pl : Bool} {m s e : Nat} {P : Prop} {N : Nat} (hN : 0 < N) (N' : Nat)
include hN in
include hN in
include hN in
include hN in
include hN in
include hN in
include hN in
include hN in
include hN in
end
section
variable {pl : Bool} {m s : Nat}
end
def LsC (w : World) (k : Nat) (l : List Dt) (a : Option Addr) (c : Nat) (F : List Nat) : Prop := Ls w k l a F ∧ l.length ≤ c ∧ c ≤ maxLen
theorem nam_cells {w : World} {m : Nm} {cs : List Value} {F : List Nat} (h : Ow w (namD m) cs F) :
  cs = [.string m.1, .int .i64 m.2.1, .int .i64 m.2.2] := by
 unfold namD Ow at h
 obtain ⟨d0, rfl, v0, h⟩ := h
 unfold Ow at h
 obtain ⟨d1, rfl, v1, h⟩ := h
 unfold Ow at h
 obtain ⟨d2, rfl, v2, h⟩ := h
 unfold Ow at h
 obtain ⟨rfl, rfl⟩ := h
 rfl
theorem cho_cells {w : World} {n : Nt} {m : Nm} {ds : List Dt} {cs : List Value} {F : List Nat} (h : Ow w (choD n m ds) cs F) :
  ∃ a1 c1, cs = [.bool n.1, .bool n.2.1, .string n.2.2, .string m.1, .slice a1 ds.length c1, .int .i64 m.2.1, .int .i64 m.2.2] ∧ LsC w 4 ds a1 c1 F := by
 unfold choD ntD Ow at h
 obtain ⟨d0, rfl, v0, h⟩ := h
 unfold Ow at h
 obtain ⟨d1, rfl, v1, h⟩ := h
 unfold Ow at h
 obtain ⟨d2, rfl, v2, h⟩ := h
 unfold Ow at h
 obtain ⟨d3, rfl, v3, h⟩ := h
 unfold Ow at h
 obtain ⟨a1, na1, c1, d4, F4, G4, rfl, i4, j4, k4, m4, h, rfl⟩ := h
 obtain ⟨rfl, l4⟩ := lst_ls m4
 unfold Ow at h
 obtain ⟨d5, rfl, v5, h⟩ := h
 unfold Ow at h
 obtain ⟨d6, rfl, v6, h⟩ := h
 unfold Ow at h
 obtain ⟨rfl, rfl⟩ := h
 exact ⟨a1, c1, rfl, ⟨l4.mono (fun b hb => List.mem_append_left _ hb), i4, j4⟩⟩
theorem inp_cells {w : World} {n : Nt} {m : Nm} {tn tw : ByteArray} {hd : Bool} {k : Int} {tx : ByteArray} {bl : Bool} {its fls : Dt} {ln co : Int} {ds : List Dt} {cs : List Value} {F : List Nat} (h : Ow w (inpD n m tn tw hd (litD k tx bl its fls ln co) ds) cs F) :
  ∃ ai nai ci af naf cf a1 c1 G, cs = [.bool n.1, .bool n.2.1, .string n.2.2, .string m.1, .string tn, .string tw, .bool hd, .int .i64 k, .string tx, .bool bl, .slice ai nai ci, .slice af naf cf, .int .i64 ln, .int .i64 co, .slice a1 ds.length c1, .int .i64 m.2.1, .int .i64 m.2.2] ∧ Ow w (litD k tx bl its fls ln co) [.int .i64 k, .string tx, .bool bl, .slice ai nai ci, .slice af naf cf, .int .i64 ln, .int .i64 co] G ∧ (∀ b ∈ G, b ∈ F) ∧ LsC w 4 ds a1 c1 F := by
 unfold inpD ntD litD at h
 simp only [app] at h
 unfold Ow at h
 obtain ⟨d0, rfl, v0, h⟩ := h
 unfold Ow at h
 obtain ⟨d1, rfl, v1, h⟩ := h
 unfold Ow at h
 obtain ⟨d2, rfl, v2, h⟩ := h
 unfold Ow at h
 obtain ⟨d3, rfl, v3, h⟩ := h
 unfold Ow at h
 obtain ⟨d4, rfl, v4, h⟩ := h
 unfold Ow at h
 obtain ⟨d5, rfl, v5, h⟩ := h
 unfold Ow at h
 obtain ⟨d6, rfl, v6, h⟩ := h
 unfold Ow at h
 obtain ⟨d7, rfl, v7, h⟩ := h
 unfold Ow at h
 obtain ⟨d8, rfl, v8, h⟩ := h
 unfold Ow at h
 obtain ⟨d9, rfl, v9, h⟩ := h
 unfold Ow at h
 obtain ⟨ai, nai, ci, d10, F10, G10, rfl, i10, j10, k10, m10, h, rfl⟩ := h
 unfold Ow at h
 obtain ⟨af, naf, cf, d11, F11, G11, rfl, i11, j11, k11, m11, h, rfl⟩ := h
 unfold Ow at h
 obtain ⟨d12, rfl, v12, h⟩ := h
 unfold Ow at h
 obtain ⟨d13, rfl, v13, h⟩ := h
 unfold Ow at h
 obtain ⟨a1, na1, c1, d14, F14, G14, rfl, i14, j14, k14, m14, h, rfl⟩ := h
 obtain ⟨rfl, l14⟩ := lst_ls m14
 unfold Ow at h
 obtain ⟨d15, rfl, v15, h⟩ := h
 unfold Ow at h
 obtain ⟨d16, rfl, v16, h⟩ := h
 unfold Ow at h
 obtain ⟨rfl, rfl⟩ := h
 refine ⟨ai, nai, ci, af, naf, cf, a1, c1, F10 ++ (F11 ++ []), rfl, ?_, ?_, ⟨l14.mono (fun b hb => List.mem_append_right _ (List.mem_append_right _ (List.mem_append_left _ hb))), i14, j14⟩⟩
 ·unfold litD Ow
  refine ⟨_, rfl, v7, ?_⟩
  unfold Ow
  refine ⟨_, rfl, v8, ?_⟩
  unfold Ow
  refine ⟨_, rfl, v9, ?_⟩
  unfold Ow
  refine ⟨ai, nai, ci, _, F10, F11 ++ [], rfl, i10, j10, k10, m10, ?_, rfl⟩
  unfold Ow
  refine ⟨af, naf, cf, _, F11, [], rfl, i11, j11, k11, m11, ?_, rfl⟩
  unfold Ow
  refine ⟨_, rfl, v12, ?_⟩
  unfold Ow
  refine ⟨_, rfl, v13, ?_⟩
  unfold Ow
  exact ⟨rfl, rfl⟩
 ·intro b hb
  simp at hb ⊢
  rcases hb with hb | hb
  ·exact .inl hb
  ·exact .inr (.inl hb)
theorem fd_cells {w : World} {n : Nt} {m : Nm} {al : List Dt} {tn tw : ByteArray} {ds : List Dt} {cs : List Value} {F : List Nat} (h : Ow w (fdD n m al tn tw ds) cs F) :
  ∃ a1 c1 a2 c2, cs = [.bool n.1, .bool n.2.1, .string n.2.2, .string m.1, .slice a1 al.length c1, .string tn, .string tw, .slice a2 ds.length c2, .int .i64 m.2.1, .int .i64 m.2.2] ∧ LsC w 17 al a1 c1 F ∧ LsC w 4 ds a2 c2 F := by
 unfold fdD ntD Ow at h
 obtain ⟨d0, rfl, v0, h⟩ := h
 unfold Ow at h
 obtain ⟨d1, rfl, v1, h⟩ := h
 unfold Ow at h
 obtain ⟨d2, rfl, v2, h⟩ := h
 unfold Ow at h
 obtain ⟨d3, rfl, v3, h⟩ := h
 unfold Ow at h
 obtain ⟨a1, na1, c1, d4, F4, G4, rfl, i4, j4, k4, m4, h, rfl⟩ := h
 obtain ⟨rfl, l4⟩ := lst_ls m4
 unfold Ow at h
 obtain ⟨d5, rfl, v5, h⟩ := h
 unfold Ow at h
 obtain ⟨d6, rfl, v6, h⟩ := h
 unfold Ow at h
 obtain ⟨a2, na2, c2, d7, F7, G7, rfl, i7, j7, k7, m7, h, rfl⟩ := h
 obtain ⟨rfl, l7⟩ := lst_ls m7
 unfold Ow at h
 obtain ⟨d8, rfl, v8, h⟩ := h
 unfold Ow at h
 obtain ⟨d9, rfl, v9, h⟩ := h
 unfold Ow at h
 obtain ⟨rfl, rfl⟩ := h
 exact ⟨a1, c1, a2, c2, rfl, ⟨l4.mono (fun b hb => List.mem_append_left _ hb), i4, j4⟩, ⟨l7.mono (fun b hb => List.mem_append_right _ (List.mem_append_left _ hb)), i7, j7⟩⟩
theorem sy_cells {w : World} {s : Sy} {cs : List Value} {F : List Nat} (h : Ow w (s.d) cs F) :
  ∃ a1 c1 a2 c2 a3 c3 a4 c4 a5 c5 a6 c6 a7 c7 a8 c8, cs = [.int .i64 s.k, .bool s.ex, .bool s.n.1, .bool s.n.2.1, .string s.n.2.2, .string s.nm, .slice a1 s.ifs.length c1, .slice a2 s.ds.length c2, .slice a3 s.fs.length c3, .slice a4 s.ins.length c4, .slice a5 s.ms.length c5, .slice a6 s.vs.length c6, .slice a7 s.rs.length c7, .bool s.rp, .slice a8 s.ps.length c8, .int .i64 s.ln, .int .i64 s.co] ∧ LsC w 3 s.ifs a1 c1 F ∧ LsC w 4 s.ds a2 c2 F ∧ LsC w 10 s.fs a3 c3 F ∧ LsC w 17 s.ins a4 c4 F ∧ LsC w 3 s.ms a5 c5 F ∧ LsC w 7 s.vs a6 c6 F ∧ LsC w 4 s.rs a7 c7 F ∧ LsC w 3 s.ps a8 c8 F := by
 unfold Sy.d ntD Ow at h
 obtain ⟨d0, rfl, v0, h⟩ := h
 unfold Ow at h
 obtain ⟨d1, rfl, v1, h⟩ := h
 unfold Ow at h
 obtain ⟨d2, rfl, v2, h⟩ := h
 unfold Ow at h
 obtain ⟨d3, rfl, v3, h⟩ := h
 unfold Ow at h
 obtain ⟨d4, rfl, v4, h⟩ := h
 unfold Ow at h
 obtain ⟨d5, rfl, v5, h⟩ := h
 unfold Ow at h
 obtain ⟨a1, na1, c1, d6, F6, G6, rfl, i6, j6, k6, m6, h, rfl⟩ := h
 obtain ⟨rfl, l6⟩ := lst_ls m6
 unfold Ow at h
 obtain ⟨a2, na2, c2, d7, F7, G7, rfl, i7, j7, k7, m7, h, rfl⟩ := h
 obtain ⟨rfl, l7⟩ := lst_ls m7
 unfold Ow at h
 obtain ⟨a3, na3, c3, d8, F8, G8, rfl, i8, j8, k8, m8, h, rfl⟩ := h
 obtain ⟨rfl, l8⟩ := lst_ls m8
 unfold Ow at h
 obtain ⟨a4, na4, c4, d9, F9, G9, rfl, i9, j9, k9, m9, h, rfl⟩ := h
 obtain ⟨rfl, l9⟩ := lst_ls m9
 unfold Ow at h
 obtain ⟨a5, na5, c5, d10, F10, G10, rfl, i10, j10, k10, m10, h, rfl⟩ := h
 obtain ⟨rfl, l10⟩ := lst_ls m10
 unfold Ow at h
 obtain ⟨a6, na6, c6, d11, F11, G11, rfl, i11, j11, k11, m11, h, rfl⟩ := h
 obtain ⟨rfl, l11⟩ := lst_ls m11
 unfold Ow at h
 obtain ⟨a7, na7, c7, d12, F12, G12, rfl, i12, j12, k12, m12, h, rfl⟩ := h
 obtain ⟨rfl, l12⟩ := lst_ls m12
 unfold Ow at h
 obtain ⟨d13, rfl, v13, h⟩ := h
 unfold Ow at h
 obtain ⟨a8, na8, c8, d14, F14, G14, rfl, i14, j14, k14, m14, h, rfl⟩ := h
 obtain ⟨rfl, l14⟩ := lst_ls m14
 unfold Ow at h
 obtain ⟨d15, rfl, v15, h⟩ := h
 unfold Ow at h
 obtain ⟨d16, rfl, v16, h⟩ := h
 unfold Ow at h
 obtain ⟨rfl, rfl⟩ := h
 exact ⟨a1, c1, a2, c2, a3, c3, a4, c4, a5, c5, a6, c6, a7, c7, a8, c8, rfl, ⟨l6.mono (fun b hb => List.mem_append_left _ hb), i6, j6⟩, ⟨l7.mono (fun b hb => List.mem_append_right _ (List.mem_append_left _ hb)), i7, j7⟩, ⟨l8.mono (fun b hb => List.mem_append_right _ (List.mem_append_right _ (List.mem_append_left _ hb))), i8, j8⟩, ⟨l9.mono (fun b hb => List.mem_append_right _ (List.mem_append_right _ (List.mem_append_right _ (List.mem_append_left _ hb)))), i9, j9⟩, ⟨l10.mono (fun b hb => List.mem_append_right _ (List.mem_append_right _ (List.mem_append_right _ (List.mem_append_right _ (List.mem_append_left _ hb))))), i10, j10⟩, ⟨l11.mono (fun b hb => List.mem_append_right _ (List.mem_append_right _ (List.mem_append_right _ (List.mem_append_right _ (List.mem_append_right _ (List.mem_append_left _ hb)))))), i11, j11⟩, ⟨l12.mono (fun b hb => List.mem_append_right _ (List.mem_append_right _ (List.mem_append_right _ (List.mem_append_right _ (List.mem_append_right _ (List.mem_append_right _ (List.mem_append_left _ hb))))))), i12, j12⟩, ⟨l14.mono (fun b hb => List.mem_append_right _ (List.mem_append_right _ (List.mem_append_right _ (List.mem_append_right _ (List.mem_append_right _ (List.mem_append_right _ (List.mem_append_right _ (List.mem_append_left _ hb)))))))), i14, j14⟩⟩
open lx (toks chs cln)
def Nar (w : World) (k x y : Nat) (a : Option Addr) (xs : List Nm) : Prop := ∀ (i : Nat) (m : Nm), xs[i]? = some m → ∃ p off, a = some ⟨p, off, none⟩ ∧ p < w.heap.size ∧ w.cell? ⟨p, off + i * k + x, none⟩ = some (.string m.1) ∧ w.cell? ⟨p, off + i * k + y, none⟩ = some (.int .i64 m.2.1) ∧ w.cell? ⟨p, off + i * k + (y + 1), none⟩ = some (.int .i64 m.2.2)
theorem Nar.below {w w' : World} {k x y : Nat} {a : Option Addr} {xs : List Nm} (h : Nar w k x y a xs) (hb : Below w.heap.size w w') : Nar w' k x y a xs := fun i m hm => by
 obtain ⟨p, off, h1, h2, h3, h4, h5⟩ := h i m hm
 exact ⟨p, off, h1, Nat.lt_of_lt_of_le h2 hb.size, (hb.cell (p := ⟨p, _, none⟩) h2).trans h3, (hb.cell (p := ⟨p, _, none⟩) h2).trans h4, (hb.cell (p := ⟨p, _, none⟩) h2).trans h5⟩
theorem Ls.nar {w : World} {k x y : Nat} {l : List Dt} {a : Option Addr} {F : List Nat} {xs : List Nm} (h : Ls w k l a F) (hF : ∀ b ∈ F, b < w.heap.size) (hx : ∀ (i : Nat) (m : Nm), xs[i]? = some m → ∃ d, l[i]? = some d ∧ ∀ ds G, Ow w d ds G → ds[x]? = some (.string m.1) ∧ ds[y]? = some (.int .i64 m.2.1) ∧ ds[y + 1]? = some (.int .i64 m.2.2)) : Nar w k x y a xs := fun i m hm => by
 obtain ⟨d, hd, hc⟩ := hx i m hm
 rcases h with h | ⟨p, off, ha, hp, h⟩
 ·rw [h] at hd; simp at hd
 ·obtain ⟨ds, G, h1, h2, h3, h4⟩ := h i d hd
  obtain ⟨c1, c2, c3⟩ := hc ds G h3
  exact ⟨p, off, ha, hF p hp, h1 x _ c1, h1 y _ c2, h1 (y + 1) _ c3⟩
theorem Cat.one {V : Dt → List Nm → Prop} (hV : ∀ d ys, V d ys → ∃ m, ys = [m]) : ∀ {l : List Dt} {xs : List Nm}, Cat V l xs → xs.length = l.length ∧ ∀ (i : Nat) (m : Nm), xs[i]? = some m → ∃ d, l[i]? = some d ∧ V d [m] := by
 intro l xs h
 induction h with
 | nil => exact ⟨rfl, fun i m h => by simp at h⟩
 | cons h1 h2 ih =>
  obtain ⟨m, rfl⟩ := hV _ _ h1
  refine ⟨by simp [ih.1], fun i m' hm => ?_⟩
  cases i with
  | zero => simp at hm; subst hm; exact ⟨_, rfl, h1⟩
  | succ i => simpa using ih.2 i m' (by simpa using hm)
theorem Cat.all {V : Dt → List Nm → Prop} : ∀ {l : List Dt} {xs : List Nm}, Cat V l xs → ∃ yss : List (List Nm), yss.length = l.length ∧ xs = yss.flatten ∧ ∀ (i : Nat) ys, yss[i]? = some ys → ∃ d, l[i]? = some d ∧ V d ys := by
 intro l xs h
 induction h with
 | nil => exact ⟨[], rfl, rfl, fun i ys h => by simp at h⟩
 | @cons d l' ys zs h1 h2 ih =>
  obtain ⟨yss, e1, e2, e3⟩ := ih
  refine ⟨ys :: yss, by simp [e1], by simp [e2], fun i q hq => ?_⟩
  cases i with
  | zero => simp at hq; subst hq; exact ⟨_, rfl, h1⟩
  | succ i => simpa using e3 i q (by simpa using hq)
theorem nms_nar {w : World} {l : List Dt} {a : Option Addr} {c : Nat} {F : List Nat} {xs : List Nm} (h : LsC w 3 l a c F) (hF : ∀ b ∈ F, b < w.heap.size) (hx : Nms l xs) : Nar w 3 0 1 a xs ∧ xs.length = l.length := by
 unfold Nms at hx
 refine ⟨h.1.nar hF fun i m hm => ⟨namD m, by rw [hx, List.getElem?_map, hm]; rfl, fun ds G ho => ?_⟩, by rw [hx]; simp⟩
 rw [nam_cells ho]
 exact ⟨rfl, rfl, rfl⟩
theorem cho_nar {w : World} {l : List Dt} {a : Option Addr} {c : Nat} {F : List Nat} {xs : List Nm} (h : LsC w 7 l a c F) (hF : ∀ b ∈ F, b < w.heap.size) (hx : Cat IsC l xs) : Nar w 7 3 5 a xs ∧ xs.length = l.length := by
 obtain ⟨e1, e2⟩ := hx.one fun d ys h => by obtain ⟨n, m, ds, _, e⟩ := h; exact ⟨m, e⟩
 refine ⟨h.1.nar hF fun i m hm => ?_, e1⟩
 obtain ⟨d, hd, n, m', ds', rfl, e⟩ := e2 i m hm
 obtain rfl : m = m' := by simpa using e
 refine ⟨_, hd, fun ds G ho => ?_⟩
 obtain ⟨a1, c1, rfl, _⟩ := cho_cells ho
 exact ⟨rfl, rfl, rfl⟩
theorem inp_nar {w : World} {l : List Dt} {a : Option Addr} {c : Nat} {F : List Nat} {xs : List Nm} (h : LsC w 17 l a c F) (hF : ∀ b ∈ F, b < w.heap.size) (hx : Cat IsI l xs) : Nar w 17 3 15 a xs ∧ xs.length = l.length := by
 obtain ⟨e1, e2⟩ := hx.one fun d ys h => by obtain ⟨n, m, tn, tw, hd, v, ds, _, e, _⟩ := h; exact ⟨m, e⟩
 refine ⟨h.1.nar hF fun i m hm => ?_, e1⟩
 obtain ⟨d, hd, n, m', tn, tw, hd', v, ds', rfl, e, k, tx, bl, its, fls, ln, co, rfl⟩ := e2 i m hm
 obtain rfl : m = m' := by simpa using e
 refine ⟨_, hd, fun ds G ho => ?_⟩
 obtain ⟨ai, nai, ci, af, naf, cf, a1, c1, G', rfl, _⟩ := inp_cells ho
 exact ⟨rfl, rfl, rfl⟩
def Fdr (w : World) (a : Option Addr) (i : Nat) (ys : List Nm) : Prop := ∃ p off m zs al na cl, ys = m :: zs ∧ a = some ⟨p, off, none⟩ ∧ p < w.heap.size ∧ w.cell? ⟨p, off + i * 10 + 3, none⟩ = some (.string m.1) ∧ w.cell? ⟨p, off + i * 10 + 8, none⟩ = some (.int .i64 m.2.1) ∧ w.cell? ⟨p, off + i * 10 + 9, none⟩ = some (.int .i64 m.2.2) ∧ w.cell? ⟨p, off + i * 10 + 4, none⟩ = some (.slice al na cl) ∧ Nar w 17 3 15 al zs ∧ zs.length = na ∧ na ≤ cl ∧ cl ≤ maxLen
theorem fd_nar {w : World} {l : List Dt} {a : Option Addr} {c : Nat} {F : List Nat} {xs : List Nm} (h : LsC w 10 l a c F) (hF : ∀ b ∈ F, b < w.heap.size) (hx : Cat IsF l xs) : ∃ yss : List (List Nm), yss.length = l.length ∧ xs = yss.flatten ∧ ∀ (i : Nat) ys, yss[i]? = some ys → Fdr w a i ys := by
 obtain ⟨yss, e1, e2, e3⟩ := hx.all
 refine ⟨yss, e1, e2, fun i ys hy => ?_⟩
 obtain ⟨d, hd, n, m, al, zs, tn, tw, ds', rfl, rfl, hc⟩ := e3 i ys hy
 rcases h.1 with h0 | ⟨p, off, ha, hp, h0⟩
 ·rw [h0] at hd; simp at hd
 ·obtain ⟨ds, G, h1, h2, h3, h4⟩ := h0 i _ hd
  obtain ⟨a1, c1, a2, c2, rfl, hL1, hL2⟩ := fd_cells h3
  obtain ⟨q1, q2⟩ := inp_nar (F := G) hL1 (fun b hb => hF b (h4 b hb)) hc
  exact ⟨p, off, m, zs, a1, _, c1, rfl, ha, hF p hp, h1 3 _ rfl, h1 8 _ rfl, h1 9 _ rfl, h1 4 _ rfl, q1, q2, hL1.2.1, hL1.2.2⟩
theorem drop_get {A : Type} {l : List A} {g : Nat} {x : A} (h : l[g]? = some x) : l.drop g = x :: l.drop (g + 1) := by
 obtain ⟨hg, e⟩ := List.getElem?_eq_some_iff.1 h
 rw [List.drop_eq_getElem_cons hg, e]
set_option maxHeartbeats 16000000 in
set_option maxRecDepth 4000 in
theorem parts_ok (p n cap : Nat) (ts : List Tk) (q jj : Nat) (s : Sy) (cs : List Value) (F : List Nat) (xi xm xv xn xp xf : List Nm) (w : World) (hn : ts.length = n) (hn2 : n ≤ 4294967296) (hp : p < w.heap.size) (hrows : ∀ i u, ts[i]? = some u → RowAt w p (i * 7) u.cells) (hun : ∀ (m : Nat) (t : Tk), ts[m]? = some t → ∀ (q : Nat) (u : Tk), ts[q]? = some u → u.ln = t.ln ∧ u.co = t.co → q = m)
  (ho : Ow w s.d cs F) (hF : ∀ b ∈ F, b < w.heap.size) (hi : Nms s.ifs xi) (hm : Nms s.ms xm) (hv : Cat IsC s.vs xv) (hin : Cat IsI s.ins xn) (hps : Nms s.ps xp) (hfs : Cat IsF s.fs xf) (hch : Chn ts q (xi ++ (xm ++ (xv ++ (xn ++ (xp ++ xf))))) jj) :
  Calls Tryz.prog 19 #[.slice (some ⟨p, 0, none⟩) n cap, .int .i64 q, .agg cs.toArray] w fun e w' => e = .returned (.bool true) ∧ Below w.heap.size w w' := by
 obtain ⟨a1, c1, a2, c2, a3, c3, a4, c4, a5, c5, a6, c6, a7, c7, a8, c8, rfl, u1, u2, u3, u4, u5, u6, u7, u8⟩ := sy_cells ho
 obtain ⟨N1, L1⟩ := nms_nar u1 hF hi
 obtain ⟨N5, L5⟩ := nms_nar u5 hF hm
 obtain ⟨N6, L6⟩ := cho_nar u6 hF hv
 obtain ⟨N4, L4⟩ := inp_nar u4 hF hin
 obtain ⟨N8, L8⟩ := nms_nar u8 hF hps
 obtain ⟨yss, L3, rfl, N3⟩ := fd_nar u3 hF hfs
 have M1 := u1.2
 have M3 := u3.2
 have M4 := u4.2
 have M5 := u5.2
 have M6 := u6.2
 have M8 := u8.2
 unfold maxLen at M1 M3 M4 M5 M6 M8
 clear ho hi hm hv hin hps hfs u1 u2 u3 u4 u5 u6 u7 u8
 rw [← L1] at M1 ⊢
 rw [← L5] at M5 ⊢
 rw [← L6] at M6 ⊢
 rw [← L4] at M4 ⊢
 rw [← L8] at M8 ⊢
 rw [← L3] at M3 ⊢
 clear L1 L5 L6 L4 L8 L3
 obtain ⟨n1, hn1⟩ : ∃ z, z = xi.length := ⟨_, rfl⟩
 rw [← hn1] at M1 ⊢
 have HN1 := Hi hn1
 clear hn1
 obtain ⟨n5, hn5⟩ : ∃ z, z = xm.length := ⟨_, rfl⟩
 rw [← hn5] at M5 ⊢
 have HN5 := Hi hn5
 clear hn5
 obtain ⟨n6, hn6⟩ : ∃ z, z = xv.length := ⟨_, rfl⟩
 rw [← hn6] at M6 ⊢
 have HN6 := Hi hn6
 clear hn6
 obtain ⟨n4, hn4⟩ : ∃ z, z = xn.length := ⟨_, rfl⟩
 rw [← hn4] at M4 ⊢
 have HN4 := Hi hn4
 clear hn4
 obtain ⟨n8, hn8⟩ : ∃ z, z = xp.length := ⟨_, rfl⟩
 rw [← hn8] at M8 ⊢
 have HN8 := Hi hn8
 clear hn8
 obtain ⟨n3, hn3⟩ : ∃ z, z = yss.length := ⟨_, rfl⟩
 rw [← hn3] at M3 ⊢
 have HN3 := Hi hn3
 clear hn3
 have hSt := Hi (fun W (bb : Below w.heap.size w W) (g m : Nat) (t : Tk) (hm : ts[m]? = some t) (hk : t.k = 3) (hg : g ≤ m) => stands_ok p n cap ts g m t W hn hn2 (Nat.lt_of_lt_of_le hp bb.size) (fun i u hu => (hrows i u hu).below bb) hm hk hg (hun m t hm))
 have HCH := Hi hch
 clear hrows hun hn hF hch
 go_enter Tryz.func19, Tryz.ntmps19
 go_wp2_with fail
 obtain ⟨w0, hw0⟩ : ∃ w0, w0 = w.alloc (.cells #[.int .i64 s.k, .bool s.ex, .bool s.n.1, .bool s.n.2.1, .string s.n.2.2, .string s.nm, .slice a1 n1 c1, .slice a2 s.ds.length c2, .slice a3 n3 c3, .slice a4 n4 c4, .slice a5 n5 c5, .slice a6 n6 c6, .slice a7 s.rs.length c7, .bool s.rp, .slice a8 n8 c8, .int .i64 s.ln, .int .i64 s.co] 62) := ⟨_, rfl⟩
 have b0 : Below w.heap.size w w0 := by rw [hw0]; exact ba
 have hat : w0.heap[w.heap.size]? = some (.cells #[.int .i64 s.k, .bool s.ex, .bool s.n.1, .bool s.n.2.1, .string s.n.2.2, .string s.nm, .slice a1 n1 c1, .slice a2 s.ds.length c2, .slice a3 n3 c3, .slice a4 n4 c4, .slice a5 n5 c5, .slice a6 n6 c6, .slice a7 s.rs.length c7, .bool s.rp, .slice a8 n8 c8, .int .i64 s.ln, .int .i64 s.co] 62 (0, 0)) := by rw [hw0]; exact heap_alloc_new _ _
 have z0 : w.heap.size < w0.heap.size := by rw [hw0]; simp
 have C1 : w0.cell? ⟨w.heap.size, 6, none⟩ = some (.slice a1 n1 c1) := (dt.cell_cells hat 6).trans rfl
 have C5 : w0.cell? ⟨w.heap.size, 10, none⟩ = some (.slice a5 n5 c5) := (dt.cell_cells hat 10).trans rfl
 have C6 : w0.cell? ⟨w.heap.size, 11, none⟩ = some (.slice a6 n6 c6) := (dt.cell_cells hat 11).trans rfl
 have C4 : w0.cell? ⟨w.heap.size, 9, none⟩ = some (.slice a4 n4 c4) := (dt.cell_cells hat 9).trans rfl
 have C8 : w0.cell? ⟨w.heap.size, 14, none⟩ = some (.slice a8 n8 c8) := (dt.cell_cells hat 14).trans rfl
 have C3 : w0.cell? ⟨w.heap.size, 8, none⟩ = some (.slice a3 n3 c3) := (dt.cell_cells hat 8).trans rfl
 replace N1 := Hi (N1.below b0)
 replace N5 := Hi (N5.below b0)
 replace N6 := Hi (N6.below b0)
 replace N4 := Hi (N4.below b0)
 replace N8 := Hi (N8.below b0)
 have N3' : ∀ (i : Nat) ys, yss[i]? = some ys → Fdr w0 a3 i ys := fun i ys hy => by
  obtain ⟨p', off, m, zs, al, na, cl, e1, e2, e3, e4, e5, e6, e7, e8, e9⟩ := N3 i ys hy
  exact ⟨p', off, m, zs, al, na, cl, e1, e2, Nat.lt_of_lt_of_le e3 b0.size, (b0.cell (p := ⟨p', _, none⟩) e3).trans e4, (b0.cell (p := ⟨p', _, none⟩) e3).trans e5, (b0.cell (p := ⟨p', _, none⟩) e3).trans e6, (b0.cell (p := ⟨p', _, none⟩) e3).trans e7, e8.below b0, e9⟩
 replace N3 := Hi N3'
 have hSt0 := Hi (fun W (bb : Below w0.heap.size w0 W) => (uh hSt) W (b0.trans (bb.mono b0.size)))
 have B0 := Hi b0
 have HC1 := Hi C1
 have HC5 := Hi C5
 have HC6 := Hi C6
 have HC4 := Hi C4
 have HC8 := Hi C8
 have HC3 := Hi C3
 rw [← hw0]
 clear hw0 b0 hat N3' hSt C1 C5 C6 C4 C8 C3
 have hI1 : Below w0.heap.size w0 w0 := Below.refl _ _
 go_loopw [1, 7, 8] (fun at_ ok i wr => ∃ g qq : Nat, g ≤ n1 ∧ i = .int .i64 g ∧ ok = .bool true ∧ at_ = .int .i64 qq ∧ Hid (Chn ts qq (xi.drop g ++ (xm ++ (xv ++ (xn ++ (xp ++ yss.flatten))))) jj) ∧ Below w0.heap.size w0 wr) (fun _ _ i _ => n1 - (intOf i).toNat)
 case atStart => exact ⟨0, _, Nat.zero_le _, rfl, rfl, rfl, Hi (by rw [List.drop_zero]; exact uh HCH), hI1⟩
 case round =>
  clear HCH hI1
  obtain ⟨g, qq, hg, rfl, rfl, rfl, HCH, hI⟩ := hrel
  by_cases hlt : g < n1
  ·have ji : (g : Int) < (n1 : Int) := by omega
   obtain ⟨x, hx⟩ : ∃ x, xi[g]? = some x := ⟨_, List.getElem?_eq_getElem (by have := uh HN1; omega)⟩
   have hc := uh HCH
   rw [drop_get hx] at hc
   obtain ⟨m, t, hqm, htm, hNm, hc2⟩ := hc
   obtain ⟨y1, y2, y3⟩ := x
   obtain ⟨hk3, e1, e2, e3⟩ := hNm
   have e1 : t.tx = y1 := e1
   have e2 : t.ln = y2 := e2
   have e3 : t.co = y3 := e3
   subst e1 e2 e3
   obtain ⟨pp, off, hpa, hpl, r0, r1, r2⟩ := (uh N1) g _ hx
   subst hpa
   have r0 : wr.cell? ⟨pp, off + g * 3, none⟩ = some (.string t.tx) := (hI.cell (p := ⟨pp, _, none⟩) hpl).trans r0
   have r1 : wr.cell? ⟨pp, off + g * 3 + 1, none⟩ = some (.int .i64 t.ln) := (hI.cell (p := ⟨pp, _, none⟩) hpl).trans r1
   have r2 : wr.cell? ⟨pp, off + g * 3 + 2, none⟩ = some (.int .i64 t.co) := (hI.cell (p := ⟨pp, _, none⟩) hpl).trans r2
   have d0 : wr.cell? ⟨w.heap.size, 6, none⟩ = some (.slice (some ⟨pp, off, none⟩) n1 c1) := (hI.cell (p := ⟨w.heap.size, 6, none⟩) z0).trans (uh HC1)
   have zB : w.heap.size < wr.heap.size := Nat.lt_of_lt_of_le z0 hI.size
   have zp : pp < wr.heap.size := Nat.lt_of_lt_of_le hpl hI.size
   have hcall := Hi (fun W (bb : Below wr.heap.size wr W) => (uh hSt0) W (hI.trans (bb.mono hI.size)) qq m t htm hk3 hqm)
   have hnew := Hi (And.intro hc2 hI)
   clear hc2 hx htm hk3 hqm HCH hI hSt0 hpl
   go_wp2_with fail
   have hS0 : Below wr.heap.size wr { wr with drawn := wr.drawn + 1 } := (Below.refl _ _).drew
   refine wp_region_noPanic ?_
   refine wp_region_held (S := fun w' => Below wr.heap.size wr w') mixed ?_
   refine rgn.tl (i := 0) (v := ?v1) rfl (by kernel_rfl) (fun _ _ _ h => h) (by rfl) ?hy1 hS0 ?_
   case hy1 => (intro w' hw'; go_simp; try with_reducible rfl)
   simp only [zA, zB, zC, Act.put, zD, zE, zF]
   refine rgn.tl (i := 1) (v := ?v2) rfl (by kernel_rfl) (fun _ _ _ h => h) (by rfl) ?hy2 hS0 ?_
   case hy2 => (intro w' hw'; go_simp; try with_reducible rfl)
   simp only [zA, zB, zC, Act.put, zD, zE, zF]
   refine rgn.tl (i := 2) (v := ?v3) rfl (by kernel_rfl) (fun _ _ _ h => h) (by rfl) ?hy3 hS0 ?_
   case hy3 => (intro w' hw'; go_simp; try with_reducible rfl)
   simp only [zA, zB, zC, Act.put, zD, zE, zF]
   refine rgn.tl (i := 3) (v := ?v4) rfl (by kernel_rfl) (fun _ _ _ h => h) (by rfl) ?hy4 hS0 ?_
   case hy4 => (intro w' hw'; have d0' := (hw'.cell (p := ⟨w.heap.size, 6, none⟩) zB).trans d0; go_simp; try with_reducible rfl)
   simp only [zA, zB, zC, Act.put, zD, zE, zF]
   refine rgn.tl (i := 4) (v := ?v5) rfl (by kernel_rfl) (fun _ _ _ h => h) (by rfl) ?hy5 hS0 ?_
   case hy5 => (intro w' hw'; go_simp; try with_reducible rfl)
   simp only [zA, zB, zC, Act.put, zD, zE, zF]
   refine rgn.tl (i := 5) (v := ?v6) rfl (by kernel_rfl) (fun _ _ _ h => h) (by rfl) ?hy6 hS0 ?_
   case hy6 => (intro w' hw'; go_simp; try with_reducible rfl)
   simp only [zA, zB, zC, Act.put, zD, zE, zF]
   refine rgn.tl (i := 6) (v := ?v7) rfl (by kernel_rfl) (fun _ _ _ h => h) (by rfl) ?hy7 hS0 ?_
   case hy7 => (intro w' hw'; go_simp; try with_reducible rfl)
   simp only [zA, zB, zC, Act.put, zD, zE, zF]
   refine rgn.tl (i := 7) (v := ?v8) rfl (by kernel_rfl) (fun _ _ _ h => h) (by rfl) ?hy8 hS0 ?_
   case hy8 => (intro w' hw'; have u1 := (hw'.cell (p := ⟨pp, off + g * 3 + 1, none⟩) zp).trans r1; have u2 := (hw'.cell (p := ⟨pp, off + g * 3 + 2, none⟩) zp).trans r2; go_simp; try with_reducible rfl)
   simp only [zA, zB, zC, Act.put, zD, zE, zF]
   refine rgn.tl (i := 8) (v := ?v9) rfl (by kernel_rfl) (fun _ _ _ h => h) (by rfl) ?hy9 hS0 ?_
   case hy9 => (intro w' hw'; go_simp; try with_reducible rfl)
   simp only [zA, zB, zC, Act.put, zD, zE, zF]
   refine rgn.tl (i := 9) (v := ?v10) rfl (by kernel_rfl) (fun _ _ _ h => h) (by rfl) ?hy10 hS0 ?_
   case hy10 => (intro w' hw'; have d0' := (hw'.cell (p := ⟨w.heap.size, 6, none⟩) zB).trans d0; go_simp; try with_reducible rfl)
   simp only [zA, zB, zC, Act.put, zD, zE, zF]
   refine rgn.tl (i := 10) (v := ?v11) rfl (by kernel_rfl) (fun _ _ _ h => h) (by rfl) ?hy11 hS0 ?_
   case hy11 => (intro w' hw'; go_simp; try with_reducible rfl)
   simp only [zA, zB, zC, Act.put, zD, zE, zF]
   refine rgn.tl (i := 11) (v := ?v12) rfl (by kernel_rfl) (fun _ _ _ h => h) (by rfl) ?hy12 hS0 ?_
   case hy12 => (intro w' hw'; go_simp; try with_reducible rfl)
   simp only [zA, zB, zC, Act.put, zD, zE, zF]
   refine rgn.tl (i := 12) (v := ?v13) rfl (by kernel_rfl) (fun _ _ _ h => h) (by rfl) ?hy13 hS0 ?_
   case hy13 => (intro w' hw'; go_simp; try with_reducible rfl)
   simp only [zA, zB, zC, Act.put, zD, zE, zF]
   refine rgn.tl (i := 13) (v := ?v14) rfl (by kernel_rfl) (fun _ _ _ h => h) (by rfl) ?hy14 hS0 ?_
   case hy14 => (intro w' hw'; have u0 := (hw'.cell (p := ⟨pp, off + g * 3, none⟩) zp).trans r0; go_simp; try with_reducible rfl)
   simp only [zA, zB, zC, Act.put, zD, zE, zF]
   refine rgn.one (i := 14) _ rfl (by kernel_rfl) (by rfl) ?_
   simp only [zA, zB, zC, Act.put, zD, zE, zF]
   go_wp2_with fail
   refine ((uh hcall) _ hS0).mono ?_
   rintro e' v1 ⟨rfl, z1⟩
   have hS1 : Below wr.heap.size wr v1 := hS0.trans (z1.mono hS0.size)
   refine ⟨hS1, ?_⟩
   clear hS0 z1
   have hS0 := hS1
   clear hS1
   try simp only [zA, zB, zC, Act.put, zD, zE, zF]
   refine rgn.tl (i := 15) (v := ?v15) rfl (by kernel_rfl) (fun _ _ _ h => h) (by rfl) ?hy15 hS0 ?_
   case hy15 => (intro w' hw'; go_simp; try with_reducible rfl)
   simp only [zA, zB, zC, Act.put, zD, zE, zF]
   refine rgn.tl (i := 16) (v := ?v16) rfl (by kernel_rfl) (fun _ _ _ h => h) (by rfl) ?hy16 hS0 ?_
   case hy16 => (intro w' hw'; go_simp; try with_reducible rfl)
   simp only [zA, zB, zC, Act.put, zD, zE, zF]
   refine rgn.tl (i := 17) (v := ?v17) rfl (by kernel_rfl) (fun _ _ _ h => h) (by rfl) ?hy17 hS0 ?_
   case hy17 => (intro w' hw'; go_simp; try with_reducible rfl)
   simp only [zA, zB, zC, Act.put, zD, zE, zF]
   refine rgn.tl (i := 18) (v := ?v18) rfl (by kernel_rfl) (fun _ _ _ h => h) (by rfl) ?hy18 hS0 ?_
   case hy18 => (intro w' hw'; go_simp; try with_reducible rfl)
   simp only [zA, zB, zC, Act.put, zD, zE, zF]
   refine rgn.tl (i := 19) (v := ?v19) rfl (by kernel_rfl) (fun _ _ _ h => h) (by rfl) ?hy19 hS0 ?_
   case hy19 => (intro w' hw'; go_simp; try with_reducible rfl)
   simp only [zA, zB, zC, Act.put, zD, zE, zF]
   refine wpAnyH_done (by kernel_rfl) ?_ _; refine NoPanic.normal ?_
   clear r0 r1 r2 d0 hcall
   go_wp2_with fail
   go_roundw
   case rel => exact ⟨g + 1, m, by omega, by go_num, rfl, rfl, Hi (uh hnew).1, (uh hnew).2.trans (hS0.mono (uh hnew).2.size)⟩
   case measure => first | (simp [intOf]; omega) | simp [intOf]
  ·have ji : ¬ (g : Int) < (n1 : Int) := by omega
   have HCH2 := Hi (show Chn ts qq (xm ++ (xv ++ (xn ++ (xp ++ yss.flatten)))) jj from by
    have hc := uh HCH
    rw [List.drop_eq_nil_of_le (by have := uh HN1; omega)] at hc
    exact hc)
   have d0 : wr.cell? ⟨w.heap.size, 6, none⟩ = some (.slice a1 n1 c1) := (hI.cell (p := ⟨w.heap.size, 6, none⟩) z0).trans (uh HC1)
   have HI := Hi hI
   clear HCH hlt hI
   go_wp2_with fail
   clear d0 ji
   have HCH := HCH2
   clear HCH2
   have hI5 := uh HI
   clear HI
   go_loopw [1, 7, 9] (fun at_ ok i wr => ∃ g qq : Nat, g ≤ n5 ∧ i = .int .i64 g ∧ ok = .bool true ∧ at_ = .int .i64 qq ∧ Hid (Chn ts qq (xm.drop g ++ (xv ++ (xn ++ (xp ++ yss.flatten)))) jj) ∧ Below w0.heap.size w0 wr) (fun _ _ i _ => n5 - (intOf i).toNat)
   case atStart => exact ⟨0, _, Nat.zero_le _, rfl, rfl, rfl, Hi (by rw [List.drop_zero]; exact uh HCH), hI5⟩
   case round =>
    clear HCH hI5
    obtain ⟨g, qq, hg, rfl, rfl, rfl, HCH, hI⟩ := hrel
    by_cases hlt : g < n5
    ·have ji : (g : Int) < (n5 : Int) := by omega
     obtain ⟨x, hx⟩ : ∃ x, xm[g]? = some x := ⟨_, List.getElem?_eq_getElem (by have := uh HN5; omega)⟩
     have hc := uh HCH
     rw [drop_get hx] at hc
     obtain ⟨m, t, hqm, htm, hNm, hc2⟩ := hc
     obtain ⟨y1, y2, y3⟩ := x
     obtain ⟨hk3, e1, e2, e3⟩ := hNm
     have e1 : t.tx = y1 := e1
     have e2 : t.ln = y2 := e2
     have e3 : t.co = y3 := e3
     subst e1 e2 e3
     obtain ⟨pp, off, hpa, hpl, r0, r1, r2⟩ := (uh N5) g _ hx
     subst hpa
     have r0 : wr.cell? ⟨pp, off + g * 3, none⟩ = some (.string t.tx) := (hI.cell (p := ⟨pp, _, none⟩) hpl).trans r0
     have r1 : wr.cell? ⟨pp, off + g * 3 + 1, none⟩ = some (.int .i64 t.ln) := (hI.cell (p := ⟨pp, _, none⟩) hpl).trans r1
     have r2 : wr.cell? ⟨pp, off + g * 3 + 2, none⟩ = some (.int .i64 t.co) := (hI.cell (p := ⟨pp, _, none⟩) hpl).trans r2
     have d0 : wr.cell? ⟨w.heap.size, 10, none⟩ = some (.slice (some ⟨pp, off, none⟩) n5 c5) := (hI.cell (p := ⟨w.heap.size, 10, none⟩) z0).trans (uh HC5)
     have zB : w.heap.size < wr.heap.size := Nat.lt_of_lt_of_le z0 hI.size
     have zp : pp < wr.heap.size := Nat.lt_of_lt_of_le hpl hI.size
     have hcall := Hi (fun W (bb : Below wr.heap.size wr W) => (uh hSt0) W (hI.trans (bb.mono hI.size)) qq m t htm hk3 hqm)
     have hnew := Hi (And.intro hc2 hI)
     clear hc2 hx htm hk3 hqm HCH hI hSt0 hpl
     go_wp2_with fail
     have hS0 : Below wr.heap.size wr { wr with drawn := wr.drawn + 1 } := (Below.refl _ _).drew
     refine wp_region_noPanic ?_
     refine wp_region_held (S := fun w' => Below wr.heap.size wr w') mixed ?_
     refine rgn.tl (i := 0) (v := ?v20) rfl (by kernel_rfl) (fun _ _ _ h => h) (by rfl) ?hy20 hS0 ?_
     case hy20 => (intro w' hw'; go_simp; try with_reducible rfl)
     simp only [zA, zB, zC, Act.put, zD, zE, zF]
     refine rgn.tl (i := 1) (v := ?v21) rfl (by kernel_rfl) (fun _ _ _ h => h) (by rfl) ?hy21 hS0 ?_
     case hy21 => (intro w' hw'; go_simp; try with_reducible rfl)
     simp only [zA, zB, zC, Act.put, zD, zE, zF]
     refine rgn.tl (i := 2) (v := ?v22) rfl (by kernel_rfl) (fun _ _ _ h => h) (by rfl) ?hy22 hS0 ?_
     case hy22 => (intro w' hw'; go_simp; try with_reducible rfl)
     simp only [zA, zB, zC, Act.put, zD, zE, zF]
     refine rgn.tl (i := 3) (v := ?v23) rfl (by kernel_rfl) (fun _ _ _ h => h) (by rfl) ?hy23 hS0 ?_
     case hy23 => (intro w' hw'; have d0' := (hw'.cell (p := ⟨w.heap.size, 10, none⟩) zB).trans d0; go_simp; try with_reducible rfl)
     simp only [zA, zB, zC, Act.put, zD, zE, zF]
     refine rgn.tl (i := 4) (v := ?v24) rfl (by kernel_rfl) (fun _ _ _ h => h) (by rfl) ?hy24 hS0 ?_
     case hy24 => (intro w' hw'; go_simp; try with_reducible rfl)
     simp only [zA, zB, zC, Act.put, zD, zE, zF]
     refine rgn.tl (i := 5) (v := ?v25) rfl (by kernel_rfl) (fun _ _ _ h => h) (by rfl) ?hy25 hS0 ?_
     case hy25 => (intro w' hw'; go_simp; try with_reducible rfl)
     simp only [zA, zB, zC, Act.put, zD, zE, zF]
     refine rgn.tl (i := 6) (v := ?v26) rfl (by kernel_rfl) (fun _ _ _ h => h) (by rfl) ?hy26 hS0 ?_
     case hy26 => (intro w' hw'; go_simp; try with_reducible rfl)
     simp only [zA, zB, zC, Act.put, zD, zE, zF]
     refine rgn.tl (i := 7) (v := ?v27) rfl (by kernel_rfl) (fun _ _ _ h => h) (by rfl) ?hy27 hS0 ?_
     case hy27 => (intro w' hw'; have u1 := (hw'.cell (p := ⟨pp, off + g * 3 + 1, none⟩) zp).trans r1; have u2 := (hw'.cell (p := ⟨pp, off + g * 3 + 2, none⟩) zp).trans r2; go_simp; try with_reducible rfl)
     simp only [zA, zB, zC, Act.put, zD, zE, zF]
     refine rgn.tl (i := 8) (v := ?v28) rfl (by kernel_rfl) (fun _ _ _ h => h) (by rfl) ?hy28 hS0 ?_
     case hy28 => (intro w' hw'; go_simp; try with_reducible rfl)
     simp only [zA, zB, zC, Act.put, zD, zE, zF]
     refine rgn.tl (i := 9) (v := ?v29) rfl (by kernel_rfl) (fun _ _ _ h => h) (by rfl) ?hy29 hS0 ?_
     case hy29 => (intro w' hw'; have d0' := (hw'.cell (p := ⟨w.heap.size, 10, none⟩) zB).trans d0; go_simp; try with_reducible rfl)
     simp only [zA, zB, zC, Act.put, zD, zE, zF]
     refine rgn.tl (i := 10) (v := ?v30) rfl (by kernel_rfl) (fun _ _ _ h => h) (by rfl) ?hy30 hS0 ?_
     case hy30 => (intro w' hw'; go_simp; try with_reducible rfl)
     simp only [zA, zB, zC, Act.put, zD, zE, zF]
     refine rgn.tl (i := 11) (v := ?v31) rfl (by kernel_rfl) (fun _ _ _ h => h) (by rfl) ?hy31 hS0 ?_
     case hy31 => (intro w' hw'; go_simp; try with_reducible rfl)
     simp only [zA, zB, zC, Act.put, zD, zE, zF]
     refine rgn.tl (i := 12) (v := ?v32) rfl (by kernel_rfl) (fun _ _ _ h => h) (by rfl) ?hy32 hS0 ?_
     case hy32 => (intro w' hw'; go_simp; try with_reducible rfl)
     simp only [zA, zB, zC, Act.put, zD, zE, zF]
     refine rgn.tl (i := 13) (v := ?v33) rfl (by kernel_rfl) (fun _ _ _ h => h) (by rfl) ?hy33 hS0 ?_
     case hy33 => (intro w' hw'; have u0 := (hw'.cell (p := ⟨pp, off + g * 3, none⟩) zp).trans r0; go_simp; try with_reducible rfl)
     simp only [zA, zB, zC, Act.put, zD, zE, zF]
     refine rgn.one (i := 14) _ rfl (by kernel_rfl) (by rfl) ?_
     simp only [zA, zB, zC, Act.put, zD, zE, zF]
     go_wp2_with fail
     refine ((uh hcall) _ hS0).mono ?_
     rintro e' v1 ⟨rfl, z1⟩
     have hS1 : Below wr.heap.size wr v1 := hS0.trans (z1.mono hS0.size)
     refine ⟨hS1, ?_⟩
     clear hS0 z1
     have hS0 := hS1
     clear hS1
     try simp only [zA, zB, zC, Act.put, zD, zE, zF]
     refine rgn.tl (i := 15) (v := ?v34) rfl (by kernel_rfl) (fun _ _ _ h => h) (by rfl) ?hy34 hS0 ?_
     case hy34 => (intro w' hw'; go_simp; try with_reducible rfl)
     simp only [zA, zB, zC, Act.put, zD, zE, zF]
     refine rgn.tl (i := 16) (v := ?v35) rfl (by kernel_rfl) (fun _ _ _ h => h) (by rfl) ?hy35 hS0 ?_
     case hy35 => (intro w' hw'; go_simp; try with_reducible rfl)
     simp only [zA, zB, zC, Act.put, zD, zE, zF]
     refine rgn.tl (i := 17) (v := ?v36) rfl (by kernel_rfl) (fun _ _ _ h => h) (by rfl) ?hy36 hS0 ?_
     case hy36 => (intro w' hw'; go_simp; try with_reducible rfl)
     simp only [zA, zB, zC, Act.put, zD, zE, zF]
     refine rgn.tl (i := 18) (v := ?v37) rfl (by kernel_rfl) (fun _ _ _ h => h) (by rfl) ?hy37 hS0 ?_
     case hy37 => (intro w' hw'; go_simp; try with_reducible rfl)
     simp only [zA, zB, zC, Act.put, zD, zE, zF]
     refine rgn.tl (i := 19) (v := ?v38) rfl (by kernel_rfl) (fun _ _ _ h => h) (by rfl) ?hy38 hS0 ?_
     case hy38 => (intro w' hw'; go_simp; try with_reducible rfl)
     simp only [zA, zB, zC, Act.put, zD, zE, zF]
     refine wpAnyH_done (by kernel_rfl) ?_ _; refine NoPanic.normal ?_
     clear r0 r1 r2 d0 hcall
     go_wp2_with fail
     go_roundw
     case rel => exact ⟨g + 1, m, by omega, by go_num, rfl, rfl, Hi (uh hnew).1, (uh hnew).2.trans (hS0.mono (uh hnew).2.size)⟩
     case measure => first | (simp [intOf]; omega) | simp [intOf]
    ·have ji : ¬ (g : Int) < (n5 : Int) := by omega
     have HCH2 := Hi (show Chn ts qq (xv ++ (xn ++ (xp ++ yss.flatten))) jj from by
      have hc := uh HCH
      rw [List.drop_eq_nil_of_le (by have := uh HN5; omega)] at hc
      exact hc)
     have d0 : wr.cell? ⟨w.heap.size, 10, none⟩ = some (.slice a5 n5 c5) := (hI.cell (p := ⟨w.heap.size, 10, none⟩) z0).trans (uh HC5)
     have HI := Hi hI
     clear HCH hlt hI
     go_wp2_with fail
     clear d0 ji
     have HCH := HCH2
     clear HCH2
     have hI6 := uh HI
     clear HI
     go_loopw [1, 7, 10] (fun at_ ok i wr => ∃ g qq : Nat, g ≤ n6 ∧ i = .int .i64 g ∧ ok = .bool true ∧ at_ = .int .i64 qq ∧ Hid (Chn ts qq (xv.drop g ++ (xn ++ (xp ++ yss.flatten))) jj) ∧ Below w0.heap.size w0 wr) (fun _ _ i _ => n6 - (intOf i).toNat)
     case atStart => exact ⟨0, _, Nat.zero_le _, rfl, rfl, rfl, Hi (by rw [List.drop_zero]; exact uh HCH), hI6⟩
     case round =>
      clear HCH hI6
      obtain ⟨g, qq, hg, rfl, rfl, rfl, HCH, hI⟩ := hrel
      by_cases hlt : g < n6
      ·have ji : (g : Int) < (n6 : Int) := by omega
       obtain ⟨x, hx⟩ : ∃ x, xv[g]? = some x := ⟨_, List.getElem?_eq_getElem (by have := uh HN6; omega)⟩
       have hc := uh HCH
       rw [drop_get hx] at hc
       obtain ⟨m, t, hqm, htm, hNm, hc2⟩ := hc
       obtain ⟨y1, y2, y3⟩ := x
       obtain ⟨hk3, e1, e2, e3⟩ := hNm
       have e1 : t.tx = y1 := e1
       have e2 : t.ln = y2 := e2
       have e3 : t.co = y3 := e3
       subst e1 e2 e3
       obtain ⟨pp, off, hpa, hpl, r0, r1, r2⟩ := (uh N6) g _ hx
       subst hpa
       have r0 : wr.cell? ⟨pp, off + g * 7 + 3, none⟩ = some (.string t.tx) := (hI.cell (p := ⟨pp, _, none⟩) hpl).trans r0
       have r1 : wr.cell? ⟨pp, off + g * 7 + 5, none⟩ = some (.int .i64 t.ln) := (hI.cell (p := ⟨pp, _, none⟩) hpl).trans r1
       have r2 : wr.cell? ⟨pp, off + g * 7 + 6, none⟩ = some (.int .i64 t.co) := (hI.cell (p := ⟨pp, _, none⟩) hpl).trans r2
       have d0 : wr.cell? ⟨w.heap.size, 11, none⟩ = some (.slice (some ⟨pp, off, none⟩) n6 c6) := (hI.cell (p := ⟨w.heap.size, 11, none⟩) z0).trans (uh HC6)
       have zB : w.heap.size < wr.heap.size := Nat.lt_of_lt_of_le z0 hI.size
       have zp : pp < wr.heap.size := Nat.lt_of_lt_of_le hpl hI.size
       have hcall := Hi (fun W (bb : Below wr.heap.size wr W) => (uh hSt0) W (hI.trans (bb.mono hI.size)) qq m t htm hk3 hqm)
       have hnew := Hi (And.intro hc2 hI)
       clear hc2 hx htm hk3 hqm HCH hI hSt0 hpl
       go_wp2_with fail
       have hS0 : Below wr.heap.size wr { wr with drawn := wr.drawn + 1 } := (Below.refl _ _).drew
       refine wp_region_noPanic ?_
       refine wp_region_held (S := fun w' => Below wr.heap.size wr w') mixed ?_
       refine rgn.tl (i := 0) (v := ?v39) rfl (by kernel_rfl) (fun _ _ _ h => h) (by rfl) ?hy39 hS0 ?_
       case hy39 => (intro w' hw'; go_simp; try with_reducible rfl)
       simp only [zA, zB, zC, Act.put, zD, zE, zF]
       refine rgn.tl (i := 1) (v := ?v40) rfl (by kernel_rfl) (fun _ _ _ h => h) (by rfl) ?hy40 hS0 ?_
       case hy40 => (intro w' hw'; go_simp; try with_reducible rfl)
       simp only [zA, zB, zC, Act.put, zD, zE, zF]
       refine rgn.tl (i := 2) (v := ?v41) rfl (by kernel_rfl) (fun _ _ _ h => h) (by rfl) ?hy41 hS0 ?_
       case hy41 => (intro w' hw'; go_simp; try with_reducible rfl)
       simp only [zA, zB, zC, Act.put, zD, zE, zF]
       refine rgn.tl (i := 3) (v := ?v42) rfl (by kernel_rfl) (fun _ _ _ h => h) (by rfl) ?hy42 hS0 ?_
       case hy42 => (intro w' hw'; have d0' := (hw'.cell (p := ⟨w.heap.size, 11, none⟩) zB).trans d0; go_simp; try with_reducible rfl)
       simp only [zA, zB, zC, Act.put, zD, zE, zF]
       refine rgn.tl (i := 4) (v := ?v43) rfl (by kernel_rfl) (fun _ _ _ h => h) (by rfl) ?hy43 hS0 ?_
       case hy43 => (intro w' hw'; go_simp; try with_reducible rfl)
       simp only [zA, zB, zC, Act.put, zD, zE, zF]
       refine rgn.tl (i := 5) (v := ?v44) rfl (by kernel_rfl) (fun _ _ _ h => h) (by rfl) ?hy44 hS0 ?_
       case hy44 => (intro w' hw'; go_simp; try with_reducible rfl)
       simp only [zA, zB, zC, Act.put, zD, zE, zF]
       refine rgn.tl (i := 6) (v := ?v45) rfl (by kernel_rfl) (fun _ _ _ h => h) (by rfl) ?hy45 hS0 ?_
       case hy45 => (intro w' hw'; go_simp; try with_reducible rfl)
       simp only [zA, zB, zC, Act.put, zD, zE, zF]
       refine rgn.tl (i := 7) (v := ?v46) rfl (by kernel_rfl) (fun _ _ _ h => h) (by rfl) ?hy46 hS0 ?_
       case hy46 => (intro w' hw'; have u1 := (hw'.cell (p := ⟨pp, off + g * 7 + 5, none⟩) zp).trans r1; have u2 := (hw'.cell (p := ⟨pp, off + g * 7 + 6, none⟩) zp).trans r2; go_simp; try with_reducible rfl)
       simp only [zA, zB, zC, Act.put, zD, zE, zF]
       refine rgn.tl (i := 8) (v := ?v47) rfl (by kernel_rfl) (fun _ _ _ h => h) (by rfl) ?hy47 hS0 ?_
       case hy47 => (intro w' hw'; go_simp; try with_reducible rfl)
       simp only [zA, zB, zC, Act.put, zD, zE, zF]
       refine rgn.tl (i := 9) (v := ?v48) rfl (by kernel_rfl) (fun _ _ _ h => h) (by rfl) ?hy48 hS0 ?_
       case hy48 => (intro w' hw'; have d0' := (hw'.cell (p := ⟨w.heap.size, 11, none⟩) zB).trans d0; go_simp; try with_reducible rfl)
       simp only [zA, zB, zC, Act.put, zD, zE, zF]
       refine rgn.tl (i := 10) (v := ?v49) rfl (by kernel_rfl) (fun _ _ _ h => h) (by rfl) ?hy49 hS0 ?_
       case hy49 => (intro w' hw'; go_simp; try with_reducible rfl)
       simp only [zA, zB, zC, Act.put, zD, zE, zF]
       refine rgn.tl (i := 11) (v := ?v50) rfl (by kernel_rfl) (fun _ _ _ h => h) (by rfl) ?hy50 hS0 ?_
       case hy50 => (intro w' hw'; go_simp; try with_reducible rfl)
       simp only [zA, zB, zC, Act.put, zD, zE, zF]
       refine rgn.tl (i := 12) (v := ?v51) rfl (by kernel_rfl) (fun _ _ _ h => h) (by rfl) ?hy51 hS0 ?_
       case hy51 => (intro w' hw'; go_simp; try with_reducible rfl)
       simp only [zA, zB, zC, Act.put, zD, zE, zF]
       refine rgn.tl (i := 13) (v := ?v52) rfl (by kernel_rfl) (fun _ _ _ h => h) (by rfl) ?hy52 hS0 ?_
       case hy52 => (intro w' hw'; have u0 := (hw'.cell (p := ⟨pp, off + g * 7 + 3, none⟩) zp).trans r0; go_simp; try with_reducible rfl)
       simp only [zA, zB, zC, Act.put, zD, zE, zF]
       refine rgn.one (i := 14) _ rfl (by kernel_rfl) (by rfl) ?_
       simp only [zA, zB, zC, Act.put, zD, zE, zF]
       go_wp2_with fail
       refine ((uh hcall) _ hS0).mono ?_
       rintro e' v1 ⟨rfl, z1⟩
       have hS1 : Below wr.heap.size wr v1 := hS0.trans (z1.mono hS0.size)
       refine ⟨hS1, ?_⟩
       clear hS0 z1
       have hS0 := hS1
       clear hS1
       try simp only [zA, zB, zC, Act.put, zD, zE, zF]
       refine rgn.tl (i := 15) (v := ?v53) rfl (by kernel_rfl) (fun _ _ _ h => h) (by rfl) ?hy53 hS0 ?_
       case hy53 => (intro w' hw'; go_simp; try with_reducible rfl)
       simp only [zA, zB, zC, Act.put, zD, zE, zF]
       refine rgn.tl (i := 16) (v := ?v54) rfl (by kernel_rfl) (fun _ _ _ h => h) (by rfl) ?hy54 hS0 ?_
       case hy54 => (intro w' hw'; go_simp; try with_reducible rfl)
       simp only [zA, zB, zC, Act.put, zD, zE, zF]
       refine rgn.tl (i := 17) (v := ?v55) rfl (by kernel_rfl) (fun _ _ _ h => h) (by rfl) ?hy55 hS0 ?_
       case hy55 => (intro w' hw'; go_simp; try with_reducible rfl)
       simp only [zA, zB, zC, Act.put, zD, zE, zF]
       refine rgn.tl (i := 18) (v := ?v56) rfl (by kernel_rfl) (fun _ _ _ h => h) (by rfl) ?hy56 hS0 ?_
       case hy56 => (intro w' hw'; go_simp; try with_reducible rfl)
       simp only [zA, zB, zC, Act.put, zD, zE, zF]
       refine rgn.tl (i := 19) (v := ?v57) rfl (by kernel_rfl) (fun _ _ _ h => h) (by rfl) ?hy57 hS0 ?_
       case hy57 => (intro w' hw'; go_simp; try with_reducible rfl)
       simp only [zA, zB, zC, Act.put, zD, zE, zF]
       refine wpAnyH_done (by kernel_rfl) ?_ _; refine NoPanic.normal ?_
       clear r0 r1 r2 d0 hcall
       go_wp2_with fail
       go_roundw
       case rel => exact ⟨g + 1, m, by omega, by go_num, rfl, rfl, Hi (uh hnew).1, (uh hnew).2.trans (hS0.mono (uh hnew).2.size)⟩
       case measure => first | (simp [intOf]; omega) | simp [intOf]
      ·have ji : ¬ (g : Int) < (n6 : Int) := by omega
       have HCH2 := Hi (show Chn ts qq (xn ++ (xp ++ yss.flatten)) jj from by
        have hc := uh HCH
        rw [List.drop_eq_nil_of_le (by have := uh HN6; omega)] at hc
        exact hc)
       have d0 : wr.cell? ⟨w.heap.size, 11, none⟩ = some (.slice a6 n6 c6) := (hI.cell (p := ⟨w.heap.size, 11, none⟩) z0).trans (uh HC6)
       have HI := Hi hI
       clear HCH hlt hI
       go_wp2_with fail
       clear d0 ji
       have HCH := HCH2
       clear HCH2
       have hI4 := uh HI
       clear HI
       go_loopw [1, 7, 11] (fun at_ ok i wr => ∃ g qq : Nat, g ≤ n4 ∧ i = .int .i64 g ∧ ok = .bool true ∧ at_ = .int .i64 qq ∧ Hid (Chn ts qq (xn.drop g ++ (xp ++ yss.flatten)) jj) ∧ Below w0.heap.size w0 wr) (fun _ _ i _ => n4 - (intOf i).toNat)
       case atStart => exact ⟨0, _, Nat.zero_le _, rfl, rfl, rfl, Hi (by rw [List.drop_zero]; exact uh HCH), hI4⟩
       case round =>
        clear HCH hI4
        obtain ⟨g, qq, hg, rfl, rfl, rfl, HCH, hI⟩ := hrel
        by_cases hlt : g < n4
        ·have ji : (g : Int) < (n4 : Int) := by omega
         obtain ⟨x, hx⟩ : ∃ x, xn[g]? = some x := ⟨_, List.getElem?_eq_getElem (by have := uh HN4; omega)⟩
         have hc := uh HCH
         rw [drop_get hx] at hc
         obtain ⟨m, t, hqm, htm, hNm, hc2⟩ := hc
         obtain ⟨y1, y2, y3⟩ := x
         obtain ⟨hk3, e1, e2, e3⟩ := hNm
         have e1 : t.tx = y1 := e1
         have e2 : t.ln = y2 := e2
         have e3 : t.co = y3 := e3
         subst e1 e2 e3
         obtain ⟨pp, off, hpa, hpl, r0, r1, r2⟩ := (uh N4) g _ hx
         subst hpa
         have r0 : wr.cell? ⟨pp, off + g * 17 + 3, none⟩ = some (.string t.tx) := (hI.cell (p := ⟨pp, _, none⟩) hpl).trans r0
         have r1 : wr.cell? ⟨pp, off + g * 17 + 15, none⟩ = some (.int .i64 t.ln) := (hI.cell (p := ⟨pp, _, none⟩) hpl).trans r1
         have r2 : wr.cell? ⟨pp, off + g * 17 + 16, none⟩ = some (.int .i64 t.co) := (hI.cell (p := ⟨pp, _, none⟩) hpl).trans r2
         have d0 : wr.cell? ⟨w.heap.size, 9, none⟩ = some (.slice (some ⟨pp, off, none⟩) n4 c4) := (hI.cell (p := ⟨w.heap.size, 9, none⟩) z0).trans (uh HC4)
         have zB : w.heap.size < wr.heap.size := Nat.lt_of_lt_of_le z0 hI.size
         have zp : pp < wr.heap.size := Nat.lt_of_lt_of_le hpl hI.size
         have hcall := Hi (fun W (bb : Below wr.heap.size wr W) => (uh hSt0) W (hI.trans (bb.mono hI.size)) qq m t htm hk3 hqm)
         have hnew := Hi (And.intro hc2 hI)
         clear hc2 hx htm hk3 hqm HCH hI hSt0 hpl
         go_wp2_with fail
         have hS0 : Below wr.heap.size wr { wr with drawn := wr.drawn + 1 } := (Below.refl _ _).drew
         refine wp_region_noPanic ?_
         refine wp_region_held (S := fun w' => Below wr.heap.size wr w') mixed ?_
         refine rgn.tl (i := 0) (v := ?v58) rfl (by kernel_rfl) (fun _ _ _ h => h) (by rfl) ?hy58 hS0 ?_
         case hy58 => (intro w' hw'; go_simp; try with_reducible rfl)
         simp only [zA, zB, zC, Act.put, zD, zE, zF]
         refine rgn.tl (i := 1) (v := ?v59) rfl (by kernel_rfl) (fun _ _ _ h => h) (by rfl) ?hy59 hS0 ?_
         case hy59 => (intro w' hw'; go_simp; try with_reducible rfl)
         simp only [zA, zB, zC, Act.put, zD, zE, zF]
         refine rgn.tl (i := 2) (v := ?v60) rfl (by kernel_rfl) (fun _ _ _ h => h) (by rfl) ?hy60 hS0 ?_
         case hy60 => (intro w' hw'; go_simp; try with_reducible rfl)
         simp only [zA, zB, zC, Act.put, zD, zE, zF]
         refine rgn.tl (i := 3) (v := ?v61) rfl (by kernel_rfl) (fun _ _ _ h => h) (by rfl) ?hy61 hS0 ?_
         case hy61 => (intro w' hw'; have d0' := (hw'.cell (p := ⟨w.heap.size, 9, none⟩) zB).trans d0; go_simp; try with_reducible rfl)
         simp only [zA, zB, zC, Act.put, zD, zE, zF]
         refine rgn.tl (i := 4) (v := ?v62) rfl (by kernel_rfl) (fun _ _ _ h => h) (by rfl) ?hy62 hS0 ?_
         case hy62 => (intro w' hw'; go_simp; try with_reducible rfl)
         simp only [zA, zB, zC, Act.put, zD, zE, zF]
         refine rgn.tl (i := 5) (v := ?v63) rfl (by kernel_rfl) (fun _ _ _ h => h) (by rfl) ?hy63 hS0 ?_
         case hy63 => (intro w' hw'; go_simp; try with_reducible rfl)
         simp only [zA, zB, zC, Act.put, zD, zE, zF]
         refine rgn.tl (i := 6) (v := ?v64) rfl (by kernel_rfl) (fun _ _ _ h => h) (by rfl) ?hy64 hS0 ?_
         case hy64 => (intro w' hw'; go_simp; try with_reducible rfl)
         simp only [zA, zB, zC, Act.put, zD, zE, zF]
         refine rgn.tl (i := 7) (v := ?v65) rfl (by kernel_rfl) (fun _ _ _ h => h) (by rfl) ?hy65 hS0 ?_
         case hy65 => (intro w' hw'; have u1 := (hw'.cell (p := ⟨pp, off + g * 17 + 15, none⟩) zp).trans r1; have u2 := (hw'.cell (p := ⟨pp, off + g * 17 + 16, none⟩) zp).trans r2; go_simp; try with_reducible rfl)
         simp only [zA, zB, zC, Act.put, zD, zE, zF]
         refine rgn.tl (i := 8) (v := ?v66) rfl (by kernel_rfl) (fun _ _ _ h => h) (by rfl) ?hy66 hS0 ?_
         case hy66 => (intro w' hw'; go_simp; try with_reducible rfl)
         simp only [zA, zB, zC, Act.put, zD, zE, zF]
         refine rgn.tl (i := 9) (v := ?v67) rfl (by kernel_rfl) (fun _ _ _ h => h) (by rfl) ?hy67 hS0 ?_
         case hy67 => (intro w' hw'; have d0' := (hw'.cell (p := ⟨w.heap.size, 9, none⟩) zB).trans d0; go_simp; try with_reducible rfl)
         simp only [zA, zB, zC, Act.put, zD, zE, zF]
         refine rgn.tl (i := 10) (v := ?v68) rfl (by kernel_rfl) (fun _ _ _ h => h) (by rfl) ?hy68 hS0 ?_
         case hy68 => (intro w' hw'; go_simp; try with_reducible rfl)
         simp only [zA, zB, zC, Act.put, zD, zE, zF]
         refine rgn.tl (i := 11) (v := ?v69) rfl (by kernel_rfl) (fun _ _ _ h => h) (by rfl) ?hy69 hS0 ?_
         case hy69 => (intro w' hw'; go_simp; try with_reducible rfl)
         simp only [zA, zB, zC, Act.put, zD, zE, zF]
         refine rgn.tl (i := 12) (v := ?v70) rfl (by kernel_rfl) (fun _ _ _ h => h) (by rfl) ?hy70 hS0 ?_
         case hy70 => (intro w' hw'; go_simp; try with_reducible rfl)
         simp only [zA, zB, zC, Act.put, zD, zE, zF]
         refine rgn.tl (i := 13) (v := ?v71) rfl (by kernel_rfl) (fun _ _ _ h => h) (by rfl) ?hy71 hS0 ?_
         case hy71 => (intro w' hw'; have u0 := (hw'.cell (p := ⟨pp, off + g * 17 + 3, none⟩) zp).trans r0; go_simp; try with_reducible rfl)
         simp only [zA, zB, zC, Act.put, zD, zE, zF]
         refine rgn.one (i := 14) _ rfl (by kernel_rfl) (by rfl) ?_
         simp only [zA, zB, zC, Act.put, zD, zE, zF]
         go_wp2_with fail
         refine ((uh hcall) _ hS0).mono ?_
         rintro e' v1 ⟨rfl, z1⟩
         have hS1 : Below wr.heap.size wr v1 := hS0.trans (z1.mono hS0.size)
         refine ⟨hS1, ?_⟩
         clear hS0 z1
         have hS0 := hS1
         clear hS1
         try simp only [zA, zB, zC, Act.put, zD, zE, zF]
         refine rgn.tl (i := 15) (v := ?v72) rfl (by kernel_rfl) (fun _ _ _ h => h) (by rfl) ?hy72 hS0 ?_
         case hy72 => (intro w' hw'; go_simp; try with_reducible rfl)
         simp only [zA, zB, zC, Act.put, zD, zE, zF]
         refine rgn.tl (i := 16) (v := ?v73) rfl (by kernel_rfl) (fun _ _ _ h => h) (by rfl) ?hy73 hS0 ?_
         case hy73 => (intro w' hw'; go_simp; try with_reducible rfl)
         simp only [zA, zB, zC, Act.put, zD, zE, zF]
         refine rgn.tl (i := 17) (v := ?v74) rfl (by kernel_rfl) (fun _ _ _ h => h) (by rfl) ?hy74 hS0 ?_
         case hy74 => (intro w' hw'; go_simp; try with_reducible rfl)
         simp only [zA, zB, zC, Act.put, zD, zE, zF]
         refine rgn.tl (i := 18) (v := ?v75) rfl (by kernel_rfl) (fun _ _ _ h => h) (by rfl) ?hy75 hS0 ?_
         case hy75 => (intro w' hw'; go_simp; try with_reducible rfl)
         simp only [zA, zB, zC, Act.put, zD, zE, zF]
         refine rgn.tl (i := 19) (v := ?v76) rfl (by kernel_rfl) (fun _ _ _ h => h) (by rfl) ?hy76 hS0 ?_
         case hy76 => (intro w' hw'; go_simp; try with_reducible rfl)
         simp only [zA, zB, zC, Act.put, zD, zE, zF]
         refine wpAnyH_done (by kernel_rfl) ?_ _; refine NoPanic.normal ?_
         clear r0 r1 r2 d0 hcall
         go_wp2_with fail
         go_roundw
         case rel => exact ⟨g + 1, m, by omega, by go_num, rfl, rfl, Hi (uh hnew).1, (uh hnew).2.trans (hS0.mono (uh hnew).2.size)⟩
         case measure => first | (simp [intOf]; omega) | simp [intOf]
        ·have ji : ¬ (g : Int) < (n4 : Int) := by omega
         have HCH2 := Hi (show Chn ts qq (xp ++ yss.flatten) jj from by
          have hc := uh HCH
          rw [List.drop_eq_nil_of_le (by have := uh HN4; omega)] at hc
          exact hc)
         have d0 : wr.cell? ⟨w.heap.size, 9, none⟩ = some (.slice a4 n4 c4) := (hI.cell (p := ⟨w.heap.size, 9, none⟩) z0).trans (uh HC4)
         have HI := Hi hI
         clear HCH hlt hI
         go_wp2_with fail
         clear d0 ji
         have HCH := HCH2
         clear HCH2
         have hI8 := uh HI
         clear HI
         go_loopw [1, 7, 12] (fun at_ ok i wr => ∃ g qq : Nat, g ≤ n8 ∧ i = .int .i64 g ∧ ok = .bool true ∧ at_ = .int .i64 qq ∧ Hid (Chn ts qq (xp.drop g ++ yss.flatten) jj) ∧ Below w0.heap.size w0 wr) (fun _ _ i _ => n8 - (intOf i).toNat)
         case atStart => exact ⟨0, _, Nat.zero_le _, rfl, rfl, rfl, Hi (by rw [List.drop_zero]; exact uh HCH), hI8⟩
         case round =>
          clear HCH hI8
          obtain ⟨g, qq, hg, rfl, rfl, rfl, HCH, hI⟩ := hrel
          by_cases hlt : g < n8
          ·have ji : (g : Int) < (n8 : Int) := by omega
           obtain ⟨x, hx⟩ : ∃ x, xp[g]? = some x := ⟨_, List.getElem?_eq_getElem (by have := uh HN8; omega)⟩
           have hc := uh HCH
           rw [drop_get hx] at hc
           obtain ⟨m, t, hqm, htm, hNm, hc2⟩ := hc
           obtain ⟨y1, y2, y3⟩ := x
           obtain ⟨hk3, e1, e2, e3⟩ := hNm
           have e1 : t.tx = y1 := e1
           have e2 : t.ln = y2 := e2
           have e3 : t.co = y3 := e3
           subst e1 e2 e3
           obtain ⟨pp, off, hpa, hpl, r0, r1, r2⟩ := (uh N8) g _ hx
           subst hpa
           have r0 : wr.cell? ⟨pp, off + g * 3, none⟩ = some (.string t.tx) := (hI.cell (p := ⟨pp, _, none⟩) hpl).trans r0
           have r1 : wr.cell? ⟨pp, off + g * 3 + 1, none⟩ = some (.int .i64 t.ln) := (hI.cell (p := ⟨pp, _, none⟩) hpl).trans r1
           have r2 : wr.cell? ⟨pp, off + g * 3 + 2, none⟩ = some (.int .i64 t.co) := (hI.cell (p := ⟨pp, _, none⟩) hpl).trans r2
           have d0 : wr.cell? ⟨w.heap.size, 14, none⟩ = some (.slice (some ⟨pp, off, none⟩) n8 c8) := (hI.cell (p := ⟨w.heap.size, 14, none⟩) z0).trans (uh HC8)
           have zB : w.heap.size < wr.heap.size := Nat.lt_of_lt_of_le z0 hI.size
           have zp : pp < wr.heap.size := Nat.lt_of_lt_of_le hpl hI.size
           have hcall := Hi (fun W (bb : Below wr.heap.size wr W) => (uh hSt0) W (hI.trans (bb.mono hI.size)) qq m t htm hk3 hqm)
           have hnew := Hi (And.intro hc2 hI)
           clear hc2 hx htm hk3 hqm HCH hI hSt0 hpl
           go_wp2_with fail
           have hS0 : Below wr.heap.size wr { wr with drawn := wr.drawn + 1 } := (Below.refl _ _).drew
           refine wp_region_noPanic ?_
           refine wp_region_held (S := fun w' => Below wr.heap.size wr w') mixed ?_
           refine rgn.tl (i := 0) (v := ?v77) rfl (by kernel_rfl) (fun _ _ _ h => h) (by rfl) ?hy77 hS0 ?_
           case hy77 => (intro w' hw'; go_simp; try with_reducible rfl)
           simp only [zA, zB, zC, Act.put, zD, zE, zF]
           refine rgn.tl (i := 1) (v := ?v78) rfl (by kernel_rfl) (fun _ _ _ h => h) (by rfl) ?hy78 hS0 ?_
           case hy78 => (intro w' hw'; go_simp; try with_reducible rfl)
           simp only [zA, zB, zC, Act.put, zD, zE, zF]
           refine rgn.tl (i := 2) (v := ?v79) rfl (by kernel_rfl) (fun _ _ _ h => h) (by rfl) ?hy79 hS0 ?_
           case hy79 => (intro w' hw'; go_simp; try with_reducible rfl)
           simp only [zA, zB, zC, Act.put, zD, zE, zF]
           refine rgn.tl (i := 3) (v := ?v80) rfl (by kernel_rfl) (fun _ _ _ h => h) (by rfl) ?hy80 hS0 ?_
           case hy80 => (intro w' hw'; have d0' := (hw'.cell (p := ⟨w.heap.size, 14, none⟩) zB).trans d0; go_simp; try with_reducible rfl)
           simp only [zA, zB, zC, Act.put, zD, zE, zF]
           refine rgn.tl (i := 4) (v := ?v81) rfl (by kernel_rfl) (fun _ _ _ h => h) (by rfl) ?hy81 hS0 ?_
           case hy81 => (intro w' hw'; go_simp; try with_reducible rfl)
           simp only [zA, zB, zC, Act.put, zD, zE, zF]
           refine rgn.tl (i := 5) (v := ?v82) rfl (by kernel_rfl) (fun _ _ _ h => h) (by rfl) ?hy82 hS0 ?_
           case hy82 => (intro w' hw'; go_simp; try with_reducible rfl)
           simp only [zA, zB, zC, Act.put, zD, zE, zF]
           refine rgn.tl (i := 6) (v := ?v83) rfl (by kernel_rfl) (fun _ _ _ h => h) (by rfl) ?hy83 hS0 ?_
           case hy83 => (intro w' hw'; go_simp; try with_reducible rfl)
           simp only [zA, zB, zC, Act.put, zD, zE, zF]
           refine rgn.tl (i := 7) (v := ?v84) rfl (by kernel_rfl) (fun _ _ _ h => h) (by rfl) ?hy84 hS0 ?_
           case hy84 => (intro w' hw'; have u1 := (hw'.cell (p := ⟨pp, off + g * 3 + 1, none⟩) zp).trans r1; have u2 := (hw'.cell (p := ⟨pp, off + g * 3 + 2, none⟩) zp).trans r2; go_simp; try with_reducible rfl)
           simp only [zA, zB, zC, Act.put, zD, zE, zF]
           refine rgn.tl (i := 8) (v := ?v85) rfl (by kernel_rfl) (fun _ _ _ h => h) (by rfl) ?hy85 hS0 ?_
           case hy85 => (intro w' hw'; go_simp; try with_reducible rfl)
           simp only [zA, zB, zC, Act.put, zD, zE, zF]
           refine rgn.tl (i := 9) (v := ?v86) rfl (by kernel_rfl) (fun _ _ _ h => h) (by rfl) ?hy86 hS0 ?_
           case hy86 => (intro w' hw'; have d0' := (hw'.cell (p := ⟨w.heap.size, 14, none⟩) zB).trans d0; go_simp; try with_reducible rfl)
           simp only [zA, zB, zC, Act.put, zD, zE, zF]
           refine rgn.tl (i := 10) (v := ?v87) rfl (by kernel_rfl) (fun _ _ _ h => h) (by rfl) ?hy87 hS0 ?_
           case hy87 => (intro w' hw'; go_simp; try with_reducible rfl)
           simp only [zA, zB, zC, Act.put, zD, zE, zF]
           refine rgn.tl (i := 11) (v := ?v88) rfl (by kernel_rfl) (fun _ _ _ h => h) (by rfl) ?hy88 hS0 ?_
           case hy88 => (intro w' hw'; go_simp; try with_reducible rfl)
           simp only [zA, zB, zC, Act.put, zD, zE, zF]
           refine rgn.tl (i := 12) (v := ?v89) rfl (by kernel_rfl) (fun _ _ _ h => h) (by rfl) ?hy89 hS0 ?_
           case hy89 => (intro w' hw'; go_simp; try with_reducible rfl)
           simp only [zA, zB, zC, Act.put, zD, zE, zF]
           refine rgn.tl (i := 13) (v := ?v90) rfl (by kernel_rfl) (fun _ _ _ h => h) (by rfl) ?hy90 hS0 ?_
           case hy90 => (intro w' hw'; have u0 := (hw'.cell (p := ⟨pp, off + g * 3, none⟩) zp).trans r0; go_simp; try with_reducible rfl)
           simp only [zA, zB, zC, Act.put, zD, zE, zF]
           refine rgn.one (i := 14) _ rfl (by kernel_rfl) (by rfl) ?_
           simp only [zA, zB, zC, Act.put, zD, zE, zF]
           go_wp2_with fail
           refine ((uh hcall) _ hS0).mono ?_
           rintro e' v1 ⟨rfl, z1⟩
           have hS1 : Below wr.heap.size wr v1 := hS0.trans (z1.mono hS0.size)
           refine ⟨hS1, ?_⟩
           clear hS0 z1
           have hS0 := hS1
           clear hS1
           try simp only [zA, zB, zC, Act.put, zD, zE, zF]
           refine rgn.tl (i := 15) (v := ?v91) rfl (by kernel_rfl) (fun _ _ _ h => h) (by rfl) ?hy91 hS0 ?_
           case hy91 => (intro w' hw'; go_simp; try with_reducible rfl)
           simp only [zA, zB, zC, Act.put, zD, zE, zF]
           refine rgn.tl (i := 16) (v := ?v92) rfl (by kernel_rfl) (fun _ _ _ h => h) (by rfl) ?hy92 hS0 ?_
           case hy92 => (intro w' hw'; go_simp; try with_reducible rfl)
           simp only [zA, zB, zC, Act.put, zD, zE, zF]
           refine rgn.tl (i := 17) (v := ?v93) rfl (by kernel_rfl) (fun _ _ _ h => h) (by rfl) ?hy93 hS0 ?_
           case hy93 => (intro w' hw'; go_simp; try with_reducible rfl)
           simp only [zA, zB, zC, Act.put, zD, zE, zF]
           refine rgn.tl (i := 18) (v := ?v94) rfl (by kernel_rfl) (fun _ _ _ h => h) (by rfl) ?hy94 hS0 ?_
           case hy94 => (intro w' hw'; go_simp; try with_reducible rfl)
           simp only [zA, zB, zC, Act.put, zD, zE, zF]
           refine rgn.tl (i := 19) (v := ?v95) rfl (by kernel_rfl) (fun _ _ _ h => h) (by rfl) ?hy95 hS0 ?_
           case hy95 => (intro w' hw'; go_simp; try with_reducible rfl)
           simp only [zA, zB, zC, Act.put, zD, zE, zF]
           refine wpAnyH_done (by kernel_rfl) ?_ _; refine NoPanic.normal ?_
           clear r0 r1 r2 d0 hcall
           go_wp2_with fail
           go_roundw
           case rel => exact ⟨g + 1, m, by omega, by go_num, rfl, rfl, Hi (uh hnew).1, (uh hnew).2.trans (hS0.mono (uh hnew).2.size)⟩
           case measure => first | (simp [intOf]; omega) | simp [intOf]
          ·have ji : ¬ (g : Int) < (n8 : Int) := by omega
           have HCH2 := Hi (show Chn ts qq yss.flatten jj from by
            have hc := uh HCH
            rw [List.drop_eq_nil_of_le (by have := uh HN8; omega)] at hc
            exact hc)
           have d0 : wr.cell? ⟨w.heap.size, 14, none⟩ = some (.slice a8 n8 c8) := (hI.cell (p := ⟨w.heap.size, 14, none⟩) z0).trans (uh HC8)
           have HI := Hi hI
           clear HCH hlt hI
           go_wp2_with fail
           clear d0 ji
           have HCH := HCH2
           clear HCH2
           have hI3 := uh HI
           clear HI
           go_loopw [1, 7, 13] (fun at_ ok i wr => ∃ g qq : Nat, g ≤ n3 ∧ i = .int .i64 g ∧ ok = .bool true ∧ at_ = .int .i64 qq ∧ Hid (Chn ts qq (yss.drop g).flatten jj) ∧ Below w0.heap.size w0 wr) (fun _ _ i _ => n3 - (intOf i).toNat)
           case atStart => exact ⟨0, _, Nat.zero_le _, rfl, rfl, rfl, Hi (by rw [List.drop_zero]; exact uh HCH), hI3⟩
           case round =>
            clear HCH hI3
            obtain ⟨g, qq, hg, rfl, rfl, rfl, HCH, hI⟩ := hrel
            by_cases hlt : g < n3
            ·have ji : (g : Int) < (n3 : Int) := by omega
             obtain ⟨x, hx⟩ : ∃ x, yss[g]? = some x := ⟨_, List.getElem?_eq_getElem (by have := uh HN3; omega)⟩
             have hc := uh HCH
             rw [drop_get hx, List.flatten_cons] at hc
             obtain ⟨pp, off, ⟨y1, y2, y3⟩, zs, al, na, cl, rfl, hpa, hpl, r0, r1, r2, r4, hNar, hzl, hncl, hclm⟩ := (uh N3) g _ hx
             subst hpa
             unfold maxLen at hclm
             obtain ⟨m, t, hqm, htm, hNm, hc2⟩ := hc
             obtain ⟨hk3, e1, e2, e3⟩ := hNm
             have e1 : t.tx = y1 := e1
             have e2 : t.ln = y2 := e2
             have e3 : t.co = y3 := e3
             subst e1 e2 e3
             have R4 := Hi (And.intro r4 (And.intro hpl (And.intro hNar hzl)))
             have r0 : wr.cell? ⟨pp, off + g * 10 + 3, none⟩ = some (.string t.tx) := (hI.cell (p := ⟨pp, _, none⟩) hpl).trans r0
             have r1 : wr.cell? ⟨pp, off + g * 10 + 8, none⟩ = some (.int .i64 t.ln) := (hI.cell (p := ⟨pp, _, none⟩) hpl).trans r1
             have r2 : wr.cell? ⟨pp, off + g * 10 + 9, none⟩ = some (.int .i64 t.co) := (hI.cell (p := ⟨pp, _, none⟩) hpl).trans r2
             have d0 : wr.cell? ⟨w.heap.size, 8, none⟩ = some (.slice (some ⟨pp, off, none⟩) n3 c3) := (hI.cell (p := ⟨w.heap.size, 8, none⟩) z0).trans (uh HC3)
             have zB : w.heap.size < wr.heap.size := Nat.lt_of_lt_of_le z0 hI.size
             have zp : pp < wr.heap.size := Nat.lt_of_lt_of_le hpl hI.size
             have hcall := Hi (fun W (bb : Below wr.heap.size wr W) => (uh hSt0) W (hI.trans (bb.mono hI.size)) qq m t htm hk3 hqm)
             have hnew := Hi (And.intro hc2 hI)
             clear hc2 hx htm hk3 hqm HCH hI hpl r4 hNar hzl
             go_wp2_with fail
             have hS0 : Below wr.heap.size wr { wr with drawn := wr.drawn + 1 } := (Below.refl _ _).drew
             refine wp_region_noPanic ?_
             refine wp_region_held (S := fun w' => Below wr.heap.size wr w') mixed ?_
             refine rgn.tl (i := 0) (v := ?v96) rfl (by kernel_rfl) (fun _ _ _ h => h) (by rfl) ?hy96 hS0 ?_
             case hy96 => (intro w' hw'; go_simp; try with_reducible rfl)
             simp only [zA, zB, zC, Act.put, zD, zE, zF]
             refine rgn.tl (i := 1) (v := ?v97) rfl (by kernel_rfl) (fun _ _ _ h => h) (by rfl) ?hy97 hS0 ?_
             case hy97 => (intro w' hw'; go_simp; try with_reducible rfl)
             simp only [zA, zB, zC, Act.put, zD, zE, zF]
             refine rgn.tl (i := 2) (v := ?v98) rfl (by kernel_rfl) (fun _ _ _ h => h) (by rfl) ?hy98 hS0 ?_
             case hy98 => (intro w' hw'; go_simp; try with_reducible rfl)
             simp only [zA, zB, zC, Act.put, zD, zE, zF]
             refine rgn.tl (i := 3) (v := ?v99) rfl (by kernel_rfl) (fun _ _ _ h => h) (by rfl) ?hy99 hS0 ?_
             case hy99 => (intro w' hw'; have d0' := (hw'.cell (p := ⟨w.heap.size, 8, none⟩) zB).trans d0; go_simp; try with_reducible rfl)
             simp only [zA, zB, zC, Act.put, zD, zE, zF]
             refine rgn.tl (i := 4) (v := ?v100) rfl (by kernel_rfl) (fun _ _ _ h => h) (by rfl) ?hy100 hS0 ?_
             case hy100 => (intro w' hw'; go_simp; try with_reducible rfl)
             simp only [zA, zB, zC, Act.put, zD, zE, zF]
             refine rgn.tl (i := 5) (v := ?v101) rfl (by kernel_rfl) (fun _ _ _ h => h) (by rfl) ?hy101 hS0 ?_
             case hy101 => (intro w' hw'; go_simp; try with_reducible rfl)
             simp only [zA, zB, zC, Act.put, zD, zE, zF]
             refine rgn.tl (i := 6) (v := ?v102) rfl (by kernel_rfl) (fun _ _ _ h => h) (by rfl) ?hy102 hS0 ?_
             case hy102 => (intro w' hw'; go_simp; try with_reducible rfl)
             simp only [zA, zB, zC, Act.put, zD, zE, zF]
             refine rgn.tl (i := 7) (v := ?v103) rfl (by kernel_rfl) (fun _ _ _ h => h) (by rfl) ?hy103 hS0 ?_
             case hy103 => (intro w' hw'; have u1 := (hw'.cell (p := ⟨pp, off + g * 10 + 8, none⟩) zp).trans r1; have u2 := (hw'.cell (p := ⟨pp, off + g * 10 + 9, none⟩) zp).trans r2; go_simp; try with_reducible rfl)
             simp only [zA, zB, zC, Act.put, zD, zE, zF]
             refine rgn.tl (i := 8) (v := ?v104) rfl (by kernel_rfl) (fun _ _ _ h => h) (by rfl) ?hy104 hS0 ?_
             case hy104 => (intro w' hw'; go_simp; try with_reducible rfl)
             simp only [zA, zB, zC, Act.put, zD, zE, zF]
             refine rgn.tl (i := 9) (v := ?v105) rfl (by kernel_rfl) (fun _ _ _ h => h) (by rfl) ?hy105 hS0 ?_
             case hy105 => (intro w' hw'; have d0' := (hw'.cell (p := ⟨w.heap.size, 8, none⟩) zB).trans d0; go_simp; try with_reducible rfl)
             simp only [zA, zB, zC, Act.put, zD, zE, zF]
             refine rgn.tl (i := 10) (v := ?v106) rfl (by kernel_rfl) (fun _ _ _ h => h) (by rfl) ?hy106 hS0 ?_
             case hy106 => (intro w' hw'; go_simp; try with_reducible rfl)
             simp only [zA, zB, zC, Act.put, zD, zE, zF]
             refine rgn.tl (i := 11) (v := ?v107) rfl (by kernel_rfl) (fun _ _ _ h => h) (by rfl) ?hy107 hS0 ?_
             case hy107 => (intro w' hw'; go_simp; try with_reducible rfl)
             simp only [zA, zB, zC, Act.put, zD, zE, zF]
             refine rgn.tl (i := 12) (v := ?v108) rfl (by kernel_rfl) (fun _ _ _ h => h) (by rfl) ?hy108 hS0 ?_
             case hy108 => (intro w' hw'; go_simp; try with_reducible rfl)
             simp only [zA, zB, zC, Act.put, zD, zE, zF]
             refine rgn.tl (i := 13) (v := ?v109) rfl (by kernel_rfl) (fun _ _ _ h => h) (by rfl) ?hy109 hS0 ?_
             case hy109 => (intro w' hw'; have u0 := (hw'.cell (p := ⟨pp, off + g * 10 + 3, none⟩) zp).trans r0; go_simp; try with_reducible rfl)
             simp only [zA, zB, zC, Act.put, zD, zE, zF]
             refine rgn.one (i := 14) _ rfl (by kernel_rfl) (by rfl) ?_
             simp only [zA, zB, zC, Act.put, zD, zE, zF]
             go_wp2_with fail
             refine ((uh hcall) _ hS0).mono ?_
             rintro e' v1 ⟨rfl, z1⟩
             have hS1 : Below wr.heap.size wr v1 := hS0.trans (z1.mono hS0.size)
             refine ⟨hS1, ?_⟩
             clear hS0 z1
             have hS0 := hS1
             clear hS1
             try simp only [zA, zB, zC, Act.put, zD, zE, zF]
             refine rgn.tl (i := 15) (v := ?v110) rfl (by kernel_rfl) (fun _ _ _ h => h) (by rfl) ?hy110 hS0 ?_
             case hy110 => (intro w' hw'; go_simp; try with_reducible rfl)
             simp only [zA, zB, zC, Act.put, zD, zE, zF]
             refine rgn.tl (i := 16) (v := ?v111) rfl (by kernel_rfl) (fun _ _ _ h => h) (by rfl) ?hy111 hS0 ?_
             case hy111 => (intro w' hw'; go_simp; try with_reducible rfl)
             simp only [zA, zB, zC, Act.put, zD, zE, zF]
             refine rgn.tl (i := 17) (v := ?v112) rfl (by kernel_rfl) (fun _ _ _ h => h) (by rfl) ?hy112 hS0 ?_
             case hy112 => (intro w' hw'; go_simp; try with_reducible rfl)
             simp only [zA, zB, zC, Act.put, zD, zE, zF]
             refine rgn.tl (i := 18) (v := ?v113) rfl (by kernel_rfl) (fun _ _ _ h => h) (by rfl) ?hy113 hS0 ?_
             case hy113 => (intro w' hw'; go_simp; try with_reducible rfl)
             simp only [zA, zB, zC, Act.put, zD, zE, zF]
             refine rgn.tl (i := 19) (v := ?v114) rfl (by kernel_rfl) (fun _ _ _ h => h) (by rfl) ?hy114 hS0 ?_
             case hy114 => (intro w' hw'; go_simp; try with_reducible rfl)
             simp only [zA, zB, zC, Act.put, zD, zE, zF]
             refine wpAnyH_done (by kernel_rfl) ?_ _; refine NoPanic.normal ?_
             clear r0 r1 r2 d0 hcall
             have HI2 := Hi ((uh hnew).2.trans (hS0.mono (uh hnew).2.size))
             have HC2 := Hi (uh hnew).1
             clear hnew hS0
             go_wp2_with fail
             go_loopw [1, 7, 14] (fun at_ ok i wx => ∃ h qq : Nat, h ≤ na ∧ i = .int .i64 h ∧ ok = .bool true ∧ at_ = .int .i64 qq ∧ Hid (Chn ts qq (zs.drop h ++ (yss.drop (g + 1)).flatten) jj) ∧ Below w0.heap.size w0 wx) (fun _ _ i _ => na - (intOf i).toNat)
             case atStart => exact ⟨0, _, Nat.zero_le _, rfl, rfl, rfl, Hi (by rw [List.drop_zero]; exact uh HC2), uh HI2⟩
             case round =>
              clear HC2 HI2
              obtain ⟨h, qr, hh, rfl, rfl, rfl, HCH, hI⟩ := hrel
              obtain ⟨r4, hpl, hNar, hzl⟩ := uh R4
              have r4 : wr.cell? ⟨pp, off + g * 10 + 4, none⟩ = some (.slice al na cl) := (hI.cell (p := ⟨pp, _, none⟩) hpl).trans r4
              have d0 : wr.cell? ⟨w.heap.size, 8, none⟩ = some (.slice (some ⟨pp, off, none⟩) n3 c3) := (hI.cell (p := ⟨w.heap.size, 8, none⟩) z0).trans (uh HC3)
              by_cases hlt2 : h < na
              ·have jh : (h : Int) < (na : Int) := by omega
               obtain ⟨x, hx⟩ : ∃ x, zs[h]? = some x := ⟨_, List.getElem?_eq_getElem (by omega)⟩
               have hc := uh HCH
               rw [drop_get hx] at hc
               obtain ⟨m', t', hqm, htm, hNm, hc2⟩ := hc
               obtain ⟨y1, y2, y3⟩ := x
               obtain ⟨hk3, e1, e2, e3⟩ := hNm
               have e1 : t'.tx = y1 := e1
               have e2 : t'.ln = y2 := e2
               have e3 : t'.co = y3 := e3
               subst e1 e2 e3
               obtain ⟨p2, of2, hpa, hpl2, r0, r1, r2⟩ := hNar h _ hx
               subst hpa
               have r0 : wr.cell? ⟨p2, of2 + h * 17 + 3, none⟩ = some (.string t'.tx) := (hI.cell (p := ⟨p2, _, none⟩) hpl2).trans r0
               have r1 : wr.cell? ⟨p2, of2 + h * 17 + 15, none⟩ = some (.int .i64 t'.ln) := (hI.cell (p := ⟨p2, _, none⟩) hpl2).trans r1
               have r2 : wr.cell? ⟨p2, of2 + h * 17 + 16, none⟩ = some (.int .i64 t'.co) := (hI.cell (p := ⟨p2, _, none⟩) hpl2).trans r2
               have zB2 : w.heap.size < wr.heap.size := Nat.lt_of_lt_of_le z0 hI.size
               have zp2 : pp < wr.heap.size := Nat.lt_of_lt_of_le hpl hI.size
               have zq2 : p2 < wr.heap.size := Nat.lt_of_lt_of_le hpl2 hI.size
               have hcall := Hi (fun W (bb : Below wr.heap.size wr W) => (uh hSt0) W (hI.trans (bb.mono hI.size)) qr m' t' htm hk3 hqm)
               have hnew := Hi (And.intro hc2 hI)
               clear hc2 hx htm hk3 hqm HCH hI hpl hNar hpl2
               go_wp2_with fail
               have hS0 : Below wr.heap.size wr { wr with drawn := wr.drawn + 1 } := (Below.refl _ _).drew
               refine wp_region_noPanic ?_
               refine wp_region_held (S := fun w' => Below wr.heap.size wr w') mixed ?_
               refine rgn.tl (i := 0) (v := ?v115) rfl (by kernel_rfl) (fun _ _ _ h => h) (by rfl) ?hy115 hS0 ?_
               case hy115 => (intro w' hw'; go_simp; try with_reducible rfl)
               simp only [zA, zB, zC, Act.put, zD, zE, zF]
               refine rgn.tl (i := 1) (v := ?v116) rfl (by kernel_rfl) (fun _ _ _ h => h) (by rfl) ?hy116 hS0 ?_
               case hy116 => (intro w' hw'; go_simp; try with_reducible rfl)
               simp only [zA, zB, zC, Act.put, zD, zE, zF]
               refine rgn.tl (i := 2) (v := ?v117) rfl (by kernel_rfl) (fun _ _ _ h => h) (by rfl) ?hy117 hS0 ?_
               case hy117 => (intro w' hw'; go_simp; try with_reducible rfl)
               simp only [zA, zB, zC, Act.put, zD, zE, zF]
               refine rgn.tl (i := 3) (v := ?v118) rfl (by kernel_rfl) (fun _ _ _ h => h) (by rfl) ?hy118 hS0 ?_
               case hy118 => (intro w' hw'; have d0' := (hw'.cell (p := ⟨w.heap.size, 8, none⟩) zB2).trans d0; go_simp; try with_reducible rfl)
               simp only [zA, zB, zC, Act.put, zD, zE, zF]
               refine rgn.tl (i := 4) (v := ?v119) rfl (by kernel_rfl) (fun _ _ _ h => h) (by rfl) ?hy119 hS0 ?_
               case hy119 => (intro w' hw'; go_simp; try with_reducible rfl)
               simp only [zA, zB, zC, Act.put, zD, zE, zF]
               refine rgn.tl (i := 5) (v := ?v120) rfl (by kernel_rfl) (fun _ _ _ h => h) (by rfl) ?hy120 hS0 ?_
               case hy120 => (intro w' hw'; go_simp; try with_reducible rfl)
               simp only [zA, zB, zC, Act.put, zD, zE, zF]
               refine rgn.tl (i := 6) (v := ?v121) rfl (by kernel_rfl) (fun _ _ _ h => h) (by rfl) ?hy121 hS0 ?_
               case hy121 => (intro w' hw'; go_simp; try with_reducible rfl)
               simp only [zA, zB, zC, Act.put, zD, zE, zF]
               refine rgn.tl (i := 7) (v := ?v122) rfl (by kernel_rfl) (fun _ _ _ h => h) (by rfl) ?hy122 hS0 ?_
               case hy122 => (intro w' hw'; have d4' := (hw'.cell (p := ⟨pp, off + g * 10 + 4, none⟩) zp2).trans r4; go_simp; try with_reducible rfl)
               simp only [zA, zB, zC, Act.put, zD, zE, zF]
               refine rgn.tl (i := 8) (v := ?v123) rfl (by kernel_rfl) (fun _ _ _ h => h) (by rfl) ?hy123 hS0 ?_
               case hy123 => (intro w' hw'; go_simp; try with_reducible rfl)
               simp only [zA, zB, zC, Act.put, zD, zE, zF]
               refine rgn.tl (i := 9) (v := ?v124) rfl (by kernel_rfl) (fun _ _ _ h => h) (by rfl) ?hy124 hS0 ?_
               case hy124 => (intro w' hw'; go_simp; try with_reducible rfl)
               simp only [zA, zB, zC, Act.put, zD, zE, zF]
               refine rgn.tl (i := 10) (v := ?v125) rfl (by kernel_rfl) (fun _ _ _ h => h) (by rfl) ?hy125 hS0 ?_
               case hy125 => (intro w' hw'; go_simp; try with_reducible rfl)
               simp only [zA, zB, zC, Act.put, zD, zE, zF]
               refine rgn.tl (i := 11) (v := ?v126) rfl (by kernel_rfl) (fun _ _ _ h => h) (by rfl) ?hy126 hS0 ?_
               case hy126 => (intro w' hw'; have u1 := (hw'.cell (p := ⟨p2, of2 + h * 17 + 15, none⟩) zq2).trans r1; have u2 := (hw'.cell (p := ⟨p2, of2 + h * 17 + 16, none⟩) zq2).trans r2; go_simp; try with_reducible rfl)
               simp only [zA, zB, zC, Act.put, zD, zE, zF]
               refine rgn.tl (i := 12) (v := ?v127) rfl (by kernel_rfl) (fun _ _ _ h => h) (by rfl) ?hy127 hS0 ?_
               case hy127 => (intro w' hw'; go_simp; try with_reducible rfl)
               simp only [zA, zB, zC, Act.put, zD, zE, zF]
               refine rgn.tl (i := 13) (v := ?v128) rfl (by kernel_rfl) (fun _ _ _ h => h) (by rfl) ?hy128 hS0 ?_
               case hy128 => (intro w' hw'; have d0' := (hw'.cell (p := ⟨w.heap.size, 8, none⟩) zB2).trans d0; go_simp; try with_reducible rfl)
               simp only [zA, zB, zC, Act.put, zD, zE, zF]
               refine rgn.tl (i := 14) (v := ?v129) rfl (by kernel_rfl) (fun _ _ _ h => h) (by rfl) ?hy129 hS0 ?_
               case hy129 => (intro w' hw'; go_simp; try with_reducible rfl)
               simp only [zA, zB, zC, Act.put, zD, zE, zF]
               refine rgn.tl (i := 15) (v := ?v130) rfl (by kernel_rfl) (fun _ _ _ h => h) (by rfl) ?hy130 hS0 ?_
               case hy130 => (intro w' hw'; go_simp; try with_reducible rfl)
               simp only [zA, zB, zC, Act.put, zD, zE, zF]
               refine rgn.tl (i := 16) (v := ?v131) rfl (by kernel_rfl) (fun _ _ _ h => h) (by rfl) ?hy131 hS0 ?_
               case hy131 => (intro w' hw'; go_simp; try with_reducible rfl)
               simp only [zA, zB, zC, Act.put, zD, zE, zF]
               refine rgn.tl (i := 17) (v := ?v132) rfl (by kernel_rfl) (fun _ _ _ h => h) (by rfl) ?hy132 hS0 ?_
               case hy132 => (intro w' hw'; have d4' := (hw'.cell (p := ⟨pp, off + g * 10 + 4, none⟩) zp2).trans r4; go_simp; try with_reducible rfl)
               simp only [zA, zB, zC, Act.put, zD, zE, zF]
               refine rgn.tl (i := 18) (v := ?v133) rfl (by kernel_rfl) (fun _ _ _ h => h) (by rfl) ?hy133 hS0 ?_
               case hy133 => (intro w' hw'; go_simp; try with_reducible rfl)
               simp only [zA, zB, zC, Act.put, zD, zE, zF]
               refine rgn.tl (i := 19) (v := ?v134) rfl (by kernel_rfl) (fun _ _ _ h => h) (by rfl) ?hy134 hS0 ?_
               case hy134 => (intro w' hw'; go_simp; try with_reducible rfl)
               simp only [zA, zB, zC, Act.put, zD, zE, zF]
               refine rgn.tl (i := 20) (v := ?v135) rfl (by kernel_rfl) (fun _ _ _ h => h) (by rfl) ?hy135 hS0 ?_
               case hy135 => (intro w' hw'; go_simp; try with_reducible rfl)
               simp only [zA, zB, zC, Act.put, zD, zE, zF]
               refine rgn.tl (i := 21) (v := ?v136) rfl (by kernel_rfl) (fun _ _ _ h => h) (by rfl) ?hy136 hS0 ?_
               case hy136 => (intro w' hw'; have u0 := (hw'.cell (p := ⟨p2, of2 + h * 17 + 3, none⟩) zq2).trans r0; go_simp; try with_reducible rfl)
               simp only [zA, zB, zC, Act.put, zD, zE, zF]
               refine rgn.one (i := 22) _ rfl (by kernel_rfl) (by rfl) ?_
               simp only [zA, zB, zC, Act.put, zD, zE, zF]
               go_wp2_with fail
               refine ((uh hcall) _ hS0).mono ?_
               rintro e' v1 ⟨rfl, z1⟩
               have hS1 : Below wr.heap.size wr v1 := hS0.trans (z1.mono hS0.size)
               refine ⟨hS1, ?_⟩
               clear hS0 z1
               have hS0 := hS1
               clear hS1
               try simp only [zA, zB, zC, Act.put, zD, zE, zF]
               refine rgn.tl (i := 23) (v := ?v137) rfl (by kernel_rfl) (fun _ _ _ h => h) (by rfl) ?hy137 hS0 ?_
               case hy137 => (intro w' hw'; go_simp; try with_reducible rfl)
               simp only [zA, zB, zC, Act.put, zD, zE, zF]
               refine rgn.tl (i := 24) (v := ?v138) rfl (by kernel_rfl) (fun _ _ _ h => h) (by rfl) ?hy138 hS0 ?_
               case hy138 => (intro w' hw'; go_simp; try with_reducible rfl)
               simp only [zA, zB, zC, Act.put, zD, zE, zF]
               refine rgn.tl (i := 25) (v := ?v139) rfl (by kernel_rfl) (fun _ _ _ h => h) (by rfl) ?hy139 hS0 ?_
               case hy139 => (intro w' hw'; go_simp; try with_reducible rfl)
               simp only [zA, zB, zC, Act.put, zD, zE, zF]
               refine rgn.tl (i := 26) (v := ?v140) rfl (by kernel_rfl) (fun _ _ _ h => h) (by rfl) ?hy140 hS0 ?_
               case hy140 => (intro w' hw'; go_simp; try with_reducible rfl)
               simp only [zA, zB, zC, Act.put, zD, zE, zF]
               refine rgn.tl (i := 27) (v := ?v141) rfl (by kernel_rfl) (fun _ _ _ h => h) (by rfl) ?hy141 hS0 ?_
               case hy141 => (intro w' hw'; go_simp; try with_reducible rfl)
               simp only [zA, zB, zC, Act.put, zD, zE, zF]
               refine wpAnyH_done (by kernel_rfl) ?_ _; refine NoPanic.normal ?_
               clear r0 r1 r2 r4 d0 hcall
               go_wp2_with fail
               go_roundw
               case rel => exact ⟨h + 1, m', by omega, by go_num, rfl, rfl, Hi (uh hnew).1, (uh hnew).2.trans (hS0.mono (uh hnew).2.size)⟩
               case measure => first | (simp [intOf]; omega) | simp [intOf]
              ·have jh : ¬ (h : Int) < (na : Int) := by omega
               have HCH2 := Hi (show Chn ts qr (yss.drop (g + 1)).flatten jj from by
                have hc := uh HCH
                rw [List.drop_eq_nil_of_le (by omega)] at hc
                exact hc)
               have HI := Hi hI
               clear HCH hI hNar
               go_wp2_with fail
               go_roundw
               case rel => exact ⟨g + 1, qr, by omega, by go_num, rfl, rfl, HCH2, uh HI⟩
               case measure => first | (simp [intOf]; omega) | simp [intOf]
            ·have ji : ¬ (g : Int) < (n3 : Int) := by omega
             have d0 : wr.cell? ⟨w.heap.size, 8, none⟩ = some (.slice a3 n3 c3) := (hI.cell (p := ⟨w.heap.size, 8, none⟩) z0).trans (uh HC3)
             have HI := Hi hI
             clear HCH hlt hI
             go_wp2_with fail
             go_ret
             exact ⟨rfl, (uh B0).trans ((uh HI).mono (uh B0).size)⟩
theorem infoSDp : (Tryz.prog.info? 62).map (·.size) = some 17 := by kernel_rfl
theorem wpList_load_midW {P : Program} {ops : Array Oper} {rest : List Oper} {op : Oper} {a : Act} {w : World} {Q : Exit → Act → World → Prop} (hw : Region.wanted op (yielded ops a.tmps) = true) (ty : TypeId) (x : Operand) (ho : op.op = .load ty x)
  (b o : Nat) (hx : a.eval x = .pointer (some ⟨b, o, none⟩)) (cs : List Value) (d : TypeDesc) (hc : w.rangeAt b o cs)
  (hu : P.underlying ty = some d) (hd : d.isRow = true) (hi : (P.info? ty).map (·.size) = some cs.length)
  (h : wpList P ops Q rest (a.put op.dst (.agg cs.toArray)) w) : wpList P ops Q (op :: rest) a w :=
 wpList_step fun K hK => by simp only [hw, if_true]; exact wp_load_mid ty x ho b o hx cs d hc hu hd hi (hK _ _ h)
theorem Sh.lsP {w : World} {k : Nat} {l : List Dt} {lo hi : Nat} {a : Option Addr} {n c : Nat} {F : List Nat} (hs : Sh w k l lo hi a n c F) : Ls w k l a F ∧ (∀ b ∈ F, b < w.heap.size) ∧ l.length ≤ c ∧ c ≤ maxLen := by
 obtain ⟨h1, h2⟩ := lst_ls hs.at_
 exact ⟨h2, fun b hb => Nat.lt_of_lt_of_le (hs.rng b hb).2 hs.hi, by rw [← hs.len]; exact hs.nc, hs.cm⟩
theorem places_pure (z : List Int) (d : Int) : ∃ (yss : List (List Nm)) (jj : Nat), yss.length = ((sdocG z d).1.getD []).length ∧ Chn (toks z) 0 yss.flatten jj ∧ ∀ (i : Nat) ys, yss[i]? = some ys → ∃ s : Sy, ((sdocG z d).1.getD [])[i]? = some s.d ∧ IsY s ys := by
 cases hr : (sdocG z d).1 with
 | none => exact ⟨[], 0, rfl, Nat.le_refl _, fun i ys h => by simp at h⟩
 | some l =>
  obtain ⟨q, j, h1, h2⟩ := sdoc_places z d hr
  obtain ⟨yss, e1, e2, e3⟩ := h1.all
  refine ⟨yss, j, e1, by rw [← e2]; exact h2, fun i ys hy => ?_⟩
  obtain ⟨d', hd, s, rfl, hs⟩ := e3 i ys hy
  exact ⟨s, hd, hs⟩
set_option maxHeartbeats 8000000 in
set_option maxRecDepth 4000 in
theorem law_places (a : Option Addr) (n c : Nat) (z : List Int) (w : World) (h : Row .u8 w a n c z) (hz : mem.Byt z) (hn : n ≤ 1048576) :
  Calls Tryz.prog 7 #[.slice a n c] w fun e w' => e = .returned (.bool true) ∧ Below w.heap.size w w' := by
 have hd : (Lit.int .i64 200).wf = true := by decide
 have hAw := Hi (fun W => awake10_ok W)
 have hCo := Hi (fun W (bb : Below w.heap.size w W) => copied10_ok a n c z W (h.below bb) (by omega))
 have hPz := Hi (fun W g base cap (hb : Bsl W base g n cap z) => parse_ct (some ⟨g, 0, none⟩) n cap z 200 W hb.row (by omega) hz hd)
 have hTk := Hi (fun W g base cap (hb : Bsl W base g n cap z) => lx.tokensG_ok (some ⟨g, 0, none⟩) n cap z W hb.row (by omega) hz)
 obtain ⟨yss, jj, hyl, hyc, hyd⟩ := places_pure z 200
 have HY := Hi (And.intro hyl (And.intro hyc hyd))
 have hzl := h.len
 have htl := toks_len z hz
 rw [hzl] at htl
 have HUN := Hi (fun (m : Nat) (t : Tk) (hm : (toks z)[m]? = some t) (q : Nat) (u : Tk) (hu : (toks z)[q]? = some u) e => toks_at z hu hm e)
 clear h hz hd hyl hyc hyd
 go_enter Tryz.func7, Tryz.ntmps7
 go_wp2_with fail
 refine ((uh hAw) _).mono ?_
 rintro e w1 ⟨rfl, b1⟩
 clear hAw
 have hc1 := Hi ((uh hCo) w1 b1)
 go_wp2_with fail
 refine (uh hc1).mono ?_
 rintro e w2 ⟨rfl, hb2, b2⟩
 have bw2 := b1.trans (b2.mono b1.size)
 have hp2 := Hi ((uh hPz) w2 _ _ _ hb2)
 clear hc1 hb2 b1 b2 hPz
 go_wp2_with fail
 refine (uh hp2).mono ?_
 rintro e w3 ⟨r3, C3, a3, n3, c3, F3, fs3, hq3, rfl, hsh3, hfl3, b3⟩
 have bw3 := bw2.trans (b3.mono bw2.size)
 have q1 : (sdocG z 200).1 = r3 := congrArg Prod.fst hq3
 obtain ⟨K, fa, fn, fc, rfl⟩ : ∃ (K : Int) (fa : Option Addr) (fn fc : Nat), fs3 = [.int .i64 K, .slice fa fn fc, .slice none 0 0] := by
  unfold FltAt at hfl3
  split at hfl3
  ·exact ⟨_, _, _, _, hfl3⟩
  ·obtain ⟨b, _, _, e, _⟩ := hfl3
   exact ⟨_, _, _, _, e⟩
 have hn3 := hsh3.len
 obtain ⟨hls3, hF3, hlc3, hcm3⟩ := hsh3.lsP
 obtain ⟨hyl, hyc, hyd⟩ := uh HY
 rw [q1] at hyl hyd
 obtain ⟨L, hL⟩ : ∃ L, L = r3.getD [] := ⟨_, rfl⟩
 rw [← hL] at hyl hyd hls3 hlc3 hn3
 have hyn : yss.length = n3 := by omega
 have hnc3 : n3 ≤ c3 := by omega
 have HL := Hi (And.intro hls3 (And.intro hF3 hyd))
 have HCH := Hi hyc
 have HYN := Hi hyn
 unfold maxLen at hcm3
 obtain ⟨X, hX⟩ : ∃ X, X = w3.alloc (.cells #[.int .i64 K, .slice fa fn fc, .slice none 0 0] 29) := ⟨_, rfl⟩
 have bX : Below w3.heap.size w3 X := by rw [hX]; exact ba
 have bwX := bw3.trans (bX.mono bw3.size)
 have hcX := Hi ((uh hCo) X bwX)
 have HX := Hi hX
 have HBX := Hi (And.intro bX bwX)
 have hfl := hfl3
 clear hX bX bwX bw3 hq3 hsh3 hls3 hF3 hlc3 hyl hyc hyd HY hL q1 hp2 bw2 b3 hCo hn3 hyn
 go_wp2_with fail
 rw [← uh HX]
 clear HX
 refine (uh hcX).mono ?_
 rintro e w4 ⟨rfl, hb4, b4⟩
 have ht4 := Hi ((uh hTk) w4 _ _ _ hb4)
 clear hcX hb4 hTk
 go_wp2_with fail
 refine (uh ht4).mono ?_
 rintro e w5 ⟨p, cp, rfl, hp0, hp1, hrows, b5⟩
 clear ht4
 obtain ⟨bX, bwX⟩ := uh HBX
 have bX5 := b4.trans (b5.mono b4.size)
 have b35 := bX.trans (bX5.mono bX.size)
 have bw5 := bwX.trans (bX5.mono bwX.size)
 obtain ⟨nt, hnt⟩ : ∃ nt, nt = (toks z).length := ⟨_, rfl⟩
 have hSt := Hi (fun W (bb : Below w5.heap.size w5 W) (g m : Nat) (t : Tk) (hm : (toks z)[m]? = some t) (hk : t.k = 3) (hg : g ≤ m) => stands_ok p (toks z).length cp (toks z) g m t W rfl (by omega) (Nat.lt_of_lt_of_le hp1 bb.size) (fun i u hu => (hrows i u hu).below bb) hm hk hg ((uh HUN) m t hm))
 have hPa := Hi (fun W (bb : Below w5.heap.size w5 W) (g j' : Nat) (s : Sy) (cs : List Value) (G : List Nat) xi xm xv xn xp xf (ho : Ow W s.d cs G) (hG : ∀ b ∈ G, b < W.heap.size) hi hm hv hin hps hfs hch => parts_ok p (toks z).length cp (toks z) g j' s cs G xi xm xv xn xp xf W rfl (by omega) (Nat.lt_of_lt_of_le hp1 bb.size) (fun i u hu => (hrows i u hu).below bb) (fun m t hm => (uh HUN) m t hm) ho hG hi hm hv hin hps hfs hch)
 rw [← hnt] at hSt hPa ⊢
 have HB5 := Hi (And.intro b35 bw5)
 clear hrows HUN b4 b5 bX bwX bX5 b35 bw5 HBX hnt htl
 go_wp2_with fail
 go_loopw [6, 7] (fun at_ i wr => ∃ g qq : Nat, g ≤ n3 ∧ i = .int .i64 g ∧ at_ = .int .i64 qq ∧ Hid (Chn (toks z) qq (yss.drop g).flatten jj) ∧ Below w5.heap.size w5 wr) (fun _ i _ => n3 - (intOf i).toNat)
 case atStart => exact ⟨0, 0, Nat.zero_le _, rfl, rfl, Hi (by rw [List.drop_zero]; exact uh HCH), Below.refl _ _⟩
 case round =>
  clear HCH
  obtain ⟨g, qq, hg, rfl, rfl, HCH, hI⟩ := hrel
  by_cases hlt : g < n3
  ·have ji : (g : Int) < (n3 : Int) := by omega
   obtain ⟨ys, hy⟩ : ∃ ys, yss[g]? = some ys := ⟨_, List.getElem?_eq_getElem (by have := uh HYN; omega)⟩
   obtain ⟨hls3, hF3, hyd⟩ := uh HL
   obtain ⟨s, hsd, xi, xm, xv, xn, xp, xf, hi, hm, hv, hin, hps, hfs, rfl⟩ := hyd g ys hy
   obtain ⟨p3, off, rfl, hpF, hget⟩ := hls3.resolve_left (fun h0 => by rw [h0] at hsd; simp at hsd)
   obtain ⟨ds, G, hrow, hdl, hod, hGF⟩ := hget g _ hsd
   have hc := uh HCH
   rw [drop_get hy, List.flatten_cons] at hc
   obtain ⟨m, t, hqm, htm, hNm, hc2⟩ := hc
   obtain ⟨j', hc3, hc4⟩ := Chn.split hc2
   have hc4 := hc4.mono hc3.le
   obtain ⟨hk3, e1, e2, e3⟩ := hNm
   have e1 : t.tx = if s.k = 1 then bSchema else s.nm := e1
   have e2 : t.ln = s.ln := e2
   have e3 : t.co = s.co := e3
   obtain ⟨b35, bw5⟩ := uh HB5
   have b3r := b35.trans (hI.mono b35.size)
   have hpl := hF3 p3 hpF
   have hps3 : p3 < wr.heap.size := Nat.lt_of_lt_of_le hpl b3r.size
   have hR := fun W (bb : Below wr.heap.size wr W) => show W.rangeAt p3 (off + g * 17) ds from fun i u hu => (bb.cell (p := ⟨p3, off + g * 17 + i, none⟩) hps3).trans ((b3r.cell (p := ⟨p3, off + g * 17 + i, none⟩) hpl).trans (hrow i u hu))
   have hL1 := Hi (show (Tryz.prog.info? 62).map (·.size) = some ds.length by rw [hdl]; exact infoSDp)
   have hcs := sy_cells hod
   have hOw := Hi (fun W (bb : Below wr.heap.size wr W) => show Ow W s.d ds G ∧ ∀ b ∈ G, b < W.heap.size from ⟨ow_below hod (b3r.trans (bb.mono b3r.size) |>.mono (Nat.le_refl _)) (fun b hb => hF3 b (hGF b hb)), fun b hb => Nat.lt_of_lt_of_le (hF3 b (hGF b hb)) (b3r.trans (bb.mono b3r.size)).size⟩)
   have hR0 := hR wr (Below.refl _ _)
   obtain ⟨a1, c1, a2, c2, a33, c33, a4, c4, a5, c5, a6, c6, a7, c7, a8, c8, hdse, -⟩ := hcs
   have r0 : wr.cell? ⟨p3, off + g * 17, none⟩ = some (.int .i64 s.k) := hR0 0 _ (by rw [hdse]; rfl)
   have r5 : wr.cell? ⟨p3, off + g * 17 + 5, none⟩ = some (.string s.nm) := hR0 5 _ (by rw [hdse]; rfl)
   have r15 : wr.cell? ⟨p3, off + g * 17 + 15, none⟩ = some (.int .i64 s.ln) := hR0 15 _ (by rw [hdse]; rfl)
   have r16 : wr.cell? ⟨p3, off + g * 17 + 16, none⟩ = some (.int .i64 s.co) := hR0 16 _ (by rw [hdse]; rfl)
   have HR := Hi hR
   have hcall := (uh hSt) wr hI qq m t htm hk3 hqm
   rw [e1, e2, e3] at hcall
   have hP2 := Hi (fun W (bb : Below wr.heap.size wr W) => (uh hPa) W (hI.trans (bb.mono hI.size)) m j' s ds G xi xm xv xn xp xf ((uh hOw) W bb).1 ((uh hOw) W bb).2 hi hm hv hin hps hfs hc3)
   have hnew := Hi (And.intro hc4 hI)
   clear hc2 hc3 hc4 hI hi hm hv hin hps hfs hsd hls3 hF3 hyd hpF hget hrow hdl hod hGF hdse hR hR0 hOw hy htm hk3 e1 e2 e3 b35 bw5 b3r hpl HCH hqm
   by_cases hk1 : s.k = 1
   ·rw [if_pos hk1] at hcall
    rw [hk1] at r0
    have hcl := Hi (show Calls Tryz.prog 18 #[.slice (some ⟨p, 0, none⟩) nt cp, .int .i64 qq, .agg #[.int .i64 s.ln, .int .i64 s.co], .string ⟨#[115, 99, 104, 101, 109, 97]⟩] wr _ from hcall)
    clear hcall hk1
    go_wp2_with fail
    refine (uh hcl).mono ?_
    rintro e w6 ⟨rfl, b6⟩
    have hR6 := Hi ((uh HR) w6 b6)
    have hP6 := Hi ((uh hP2) w6 b6)
    clear hcl hP2 HR r0 r5 r15 r16
    go_wp2_with (first
     | refine wpList_load_midW (by rfl) 62 _ (by rfl) p3 (off + g * 17) (by rfl) ds _ (uh hR6) Tryz.underlying62 (by rfl) (uh hL1) ?_)
    refine (uh hP6).mono ?_
    rintro e w7 ⟨rfl, b7⟩
    have b67 := b6.trans (b7.mono b6.size)
    clear hP6 hR6 b6 b7
    go_wp2_with fail
    go_roundw
    case rel => exact ⟨g + 1, m, by omega, by go_num, rfl, Hi (uh hnew).1, (uh hnew).2.trans (b67.mono (uh hnew).2.size)⟩
    case measure => first | (simp [intOf]; omega) | simp [intOf]
   ·rw [if_neg hk1] at hcall
    have hkb : (s.k == 1) = false := by simpa using hk1
    have hcl := Hi hcall
    clear hcall
    go_wp2_with fail
    refine (uh hcl).mono ?_
    rintro e w6 ⟨rfl, b6⟩
    have hR6 := Hi ((uh HR) w6 b6)
    have hP6 := Hi ((uh hP2) w6 b6)
    clear hcl hP2 HR r0 r5 r15 r16
    go_wp2_with (first
     | refine wpList_load_midW (by rfl) 62 _ (by rfl) p3 (off + g * 17) (by rfl) ds _ (uh hR6) Tryz.underlying62 (by rfl) (uh hL1) ?_)
    refine (uh hP6).mono ?_
    rintro e w7 ⟨rfl, b7⟩
    have b67 := b6.trans (b7.mono b6.size)
    clear hP6 hR6 b6 b7
    go_wp2_with fail
    go_roundw
    case rel => exact ⟨g + 1, m, by omega, by go_num, rfl, Hi (uh hnew).1, (uh hnew).2.trans (b67.mono (uh hnew).2.size)⟩
    case measure => first | (simp [intOf]; omega) | simp [intOf]
  ·have ji : ¬ (g : Int) < (n3 : Int) := by omega
   have HI := Hi hI
   clear HCH hlt hI
   go_wp2_with fail
   go_ret
   exact ⟨rfl, (uh HB5).2.trans ((uh HI).mono (uh HB5).2.size)⟩
end Go.Proofs.YtifbkdicglcogaaGreat.cu
