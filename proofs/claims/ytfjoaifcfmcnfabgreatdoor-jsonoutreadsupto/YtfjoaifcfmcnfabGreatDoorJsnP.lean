import Derived.Test.YtfjoaifcfmcnfabGreatDoorJsn
import Derived.Test.YtfjoaifcfmcnfabGreatDoorUtf
namespace Go.Proofs.YtfjoaifcfmcnfabGreatDoor.jsn
open Go.ChangeShapes Go.WideShapes Go.ChangeAt Go.RowKit
open mem
set_option linter.unusedVariables false

def zB (l : List UInt8) : List Int := l.map fun b => (b.toNat : Int)
theorem zB_app (a b : List UInt8) : zB (a ++ b) = zB a ++ zB b := by simp [zB]
theorem zB_inj : ∀ {a b : List UInt8}, zB a = zB b → a = b
  | [], [], _ => rfl
  | [], _ :: _, h => by simp [zB] at h
  | _ :: _, [], h => by simp [zB] at h
  | x :: a, y :: b, h => by
    simp only [zB, List.map_cons, List.cons.injEq] at h
    have h1 : x = y := UInt8.toNat_inj.1 (by exact_mod_cast h.1)
    rw [h1, zB_inj (a := a) (b := b) h.2]
/-- what the reference lays for a character below 128 -/
def chr7 (c : Int) : List Int := zB (escU (UInt8.ofNat c.toNat))
def chrZ (c : Int) : List Int := if c < 128 then chr7 c else putB c
theorem esc_hi (c : UInt8) (h : 128 ≤ c.toNat) : escU c = [c] := by
  have : ∀ n, n < 256 → 128 ≤ n → escU (UInt8.ofNat n) = [UInt8.ofNat n] := by decide +kernel
  have e : UInt8.ofNat c.toNat = c := UInt8.ofNat_toNat
  have := this c.toNat (UInt8.toNat_lt c) h
  rw [e] at this
  exact this
theorem body_hi : ∀ (l : List UInt8), (∀ z ∈ zB l, 128 ≤ z) → body l = l
  | [], _ => rfl
  | c :: l, h => by
    have e : body (c :: l) = escU c ++ body l := by simp [body]
    have h1 : (128 : Int) ≤ (c.toNat : Int) := h _ (by simp [zB])
    rw [e, esc_hi c (by omega), body_hi l (fun z hz => h z (by simp only [zB, List.map_cons, List.mem_cons]; exact .inr hz))]
    rfl
theorem body_put (c : Int) (h : scP c) (l : List UInt8) (hl : zB l = putB c) : zB (body l) = chrZ c := by
  unfold chrZ
  by_cases h7 : c < 128
  · rw [if_pos h7]
    have hp : putB c = [c] := by unfold putB; rw [if_pos (by omega)]
    rw [hp] at hl
    have h0 : 0 ≤ c := by unfold scP at h; omega
    match l, hl with
    | [b], hl =>
      simp only [zB, List.map_cons, List.map_nil, List.cons.injEq, and_true] at hl
      have e : UInt8.ofNat c.toNat = b := by rw [← hl]; simp
      rw [body_one]; unfold chr7; rw [e]
    | [], hl => simp [zB] at hl
    | _ :: _ :: _, hl => simp [zB] at hl
  · rw [if_neg h7, body_hi l ?_, hl]
    rw [hl]
    intro z hz
    unfold scP at h
    unfold putB at hz
    rw [if_neg (by omega)] at hz
    split at hz
    · simp only [List.mem_cons, List.not_mem_nil, or_false] at hz; omega
    · split at hz
      · simp only [List.mem_cons, List.not_mem_nil, or_false] at hz; omega
      · simp only [List.mem_cons, List.not_mem_nil, or_false] at hz; omega
theorem body_flat : ∀ (zs : List Int) (l : List UInt8), (∀ c ∈ zs, scP c) → zB l = zs.flatMap putB → zB (body l) = zs.flatMap chrZ
  | [], l, _, hl => by
    have : l = [] := by simpa [zB] using hl
    rw [this]; rfl
  | c :: zs, l, hs, hl => by
    rw [List.flatMap_cons] at hl ⊢
    have hlen : (putB c).length ≤ l.length := by
      have := congrArg List.length hl
      simp [zB] at this
      omega
    have h1 : zB (l.take (putB c).length) = putB c := by
      have : zB (l.take (putB c).length) = (zB l).take (putB c).length := by simp [zB, List.map_take]
      rw [this, hl, List.take_left']
      rfl
    have h2 : zB (l.drop (putB c).length) = zs.flatMap putB := by
      have : zB (l.drop (putB c).length) = (zB l).drop (putB c).length := by simp [zB, List.map_drop]
      rw [this, hl, List.drop_left']
      rfl
    have e : l = l.take (putB c).length ++ l.drop (putB c).length := (List.take_append_drop _ _).symm
    rw [e, body_app, zB_app, body_put c (hs c (by simp)) _ h1, body_flat zs _ (fun d hd => hs d (by simp [hd])) h2]
end Go.Proofs.YtfjoaifcfmcnfabGreatDoor.jsn
