import Derived.Test.YtdogjghalplohaaGreatDoorJs34
import Derived.Test.YtdogjghalplohaaGreatDoorJs35
import Derived.Test.YtdogjghalplohaaGreatDoorJtx10
import Derived.Test.YtdogjghalplohaaGreatDoorJtx1
import Derived.LoopN
import Derived.Outline
import Derived.Laws.Pointers
import Derived.Deep.RegionWith
import Derived.Defers
import Derived.Recover
namespace Go.Proofs.YtdogjghalplohaaGreatDoor.jsn
open Go.ChangeShapes Go.WideShapes Go.ChangeAt Go.RowKit
open mem
open ints (hide unhide)
set_option linter.unusedVariables false
structure Pen (k:Nat) (cap:Array Value) (B:Nat) (I:List UInt8 → World → Prop) (G:World → World → Prop):Prop where
 low:∀ l w,I l w → B ≤ w.heap.size
 keep:∀ l w w',I l w → Below w.heap.size w w' → I l w'
 gtrans:∀ {a b c:World},G a b → G b c → G a c
 gnew:∀ {w w':World},B ≤ w.heap.size → Below w.heap.size w w' → G w w'
 gbel:∀ {w w':World},G w w' → Below B w w'
 enters:∀ args w,(callFunc k args).run Tryz.prog w = .ok (.enter k args) w
 lays:∀ l (s:ByteArray) w,I l w → l.length + s.size ≤ 70368744177664 → Calls Tryz.prog k (#[.string s] ++ cap) w fun e w' => e = .returned (.tuple #[]) ∧ I (l ++ s.data.toList) w' ∧ G w w'
theorem std_out (c:UInt8):(std c = true ∧ 32 ≤ c.toNat ∧ ¬ (c.toNat:Int) = 34 ∧ ¬ (c.toNat:Int) = 92) ∨ (std c = false ∧ (c.toNat < 32 ∨ c.toNat = 34 ∨ c.toNat = 92)):=by
 have:∀ n,n < 256 → (std (UInt8.ofNat n) = true ∧ 32 ≤ n ∧ ¬ (n:Int) = 34 ∧ ¬ (n:Int) = 92) ∨ (std (UInt8.ofNat n) = false ∧ (n < 32 ∨ n = 34 ∨ n = 92)):=by decide +kernel
 have e:UInt8.ofNat c.toNat = c:=UInt8.ofNat_toNat
 have:=this c.toNat (UInt8.toNat_lt c)
 rw [e] at this
 exact this
theorem stands_any (c:UInt8) (w:World) :
  Calls Tryz.prog 61 #[.int .u8 c.toNat] w fun e w' => e = .returned (.bool (std c)) ∧ w' = w:=by
 rcases std_out c with ⟨h0,h1,h2,h3⟩ | ⟨h0,h1 | h1 | h1⟩
 ·rw [h0]
  have h1:(32:Int) ≤ (c.toNat:Int):=by omega
  obtain ⟨z,hz⟩:∃ z:Int,z = (c.toNat:Int):=⟨_,rfl⟩
  rw [← hz] at h1 h2 h3 ⊢
  clear hz
  have e2:(z != 34) = true:=by simp [h2]
  have e3:(z != 92) = true:=by simp [h3]
  go_enter Tryz.func61,Tryz.ntmps61
  go_wp2
  go_ret
  refine ⟨?_,rfl⟩
  simp
 ·rw [h0]
  have h1:¬ (32:Int) ≤ (c.toNat:Int):=by omega
  obtain ⟨z,hz⟩:∃ z:Int,z = (c.toNat:Int):=⟨_,rfl⟩
  rw [← hz] at h1 ⊢
  clear hz
  go_enter Tryz.func61,Tryz.ntmps61
  go_wp2
  go_ret
  exact ⟨rfl,rfl⟩
 ·rw [h0,h1]
  go_enter Tryz.func61,Tryz.ntmps61
  go_wp2
  go_ret
  exact ⟨rfl,rfl⟩
 ·rw [h0,h1]
  go_enter Tryz.func61,Tryz.ntmps61
  go_wp2
  go_ret
  exact ⟨rfl,rfl⟩
end Go.Proofs.YtdogjghalplohaaGreatDoor.jsn
