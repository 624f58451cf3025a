import Derived.Test.YtechaplindbfoaaGreatDoorJsi23
import Derived.Test.YtechaplindbfoaaGreatDoorJsi22
import Derived.Barred
namespace Go.Proofs.YtechaplindbfoaaGreatDoor.jsn
open Go.ChangeShapes Go.WideShapes Go.ChangeAt Go.RowKit
open mem
open vl hiding hide unhide Hid
open ints (hide unhide)
set_option linter.unusedVariables false
set_option linter.unusedSimpArgs false
/-- one call has one end -/
theorem one_end {f : FuncId} {xs : Array Value} {w : World} {R R' : Value → Prop} (h : Calls Tryz.prog f xs w fun e _ => ∃ v, e = .returned v ∧ R v) (h' : Calls Tryz.prog f xs w fun e _ => ∃ v, e = .returned v ∧ R' v) (hi : Tryz.prog.inits.idxOf? f = none) : ∃ v, R v ∧ R' v := by
  have g := Calls.done (R := fun v _ => R v) (h.mono fun e w' ⟨v, he, hr⟩ => by subst he; exact hr) hi
  have g' := Calls.done (R := fun v _ => R' v) (h'.mono fun e w' ⟨v, he, hr⟩ => by subst he; exact hr) hi
  obtain ⟨n, v, w1, e1, r1⟩ := g
  obtain ⟨m, v', w2, e2, r2⟩ := g'
  have a := runN_ended e1 m
  have b := runN_ended e2 n
  rw [Nat.add_comm, a] at b
  injection b with ho hw
  injection ho with hv
  subst hv
  exact ⟨_, r1, r2⟩
/-- the reference's text of a float is the program's -/
theorem tb_ftZ {x : Nat} (h : x < 18446744073709551616) (hb : fto.badF x = false) {w : World} (hF : fto.Fx w) : fto.TbF x (ftZ x) := by
  have h1 : Calls Tryz.prog 70 #[.float .f64 x] w fun e _ => ∃ v, e = .returned v ∧ ∃ s, v = .string s ∧ fto.TbF x s := (fto.ft_tb x h w hF).mono fun e w' ⟨s, he, ht, _⟩ => ⟨_, he, s, rfl, ht⟩
  have h2 : Calls Tryz.prog 70 #[.float .f64 x] w fun e _ => ∃ v, e = .returned v ∧ v = .string (ftZ x) := ((ftZ_ok h hb).1 w hF).mono fun e w' ⟨he, _⟩ => ⟨_, he, rfl⟩
  obtain ⟨v, ⟨s, e, ht⟩, e2⟩ := one_end h1 h2 (by kernel_rfl)
  rw [e] at e2
  injection e2 with e3
  rw [← e3]
  exact ht
/-- ref02.FloatText -/
theorem rft_ok {x : Nat} (h : x < 18446744073709551616) (hb : fto.badF x = false) {w0 : World} (hF : fto.Fx w0) (w : World) : Calls Tryz.prog 65 #[.float .f64 x] w fun e w' => e = .returned (.string (ftZ x)) ∧ Below w.heap.size w w' := by
  have T1 := fto.run_tobits x
  have T2 := ints.hide (fun W => tb_ftZ h hb hF W)
  clear h hb hF
  go_enter Tryz.func65, Tryz.ntmps65
  have T1' := T1 w
  go_wp2_with fail
  refine (ints.unhide T2 _).mono ?_
  rintro e w1 ⟨rfl, b1⟩
  clear T2
  go_wp2
  go_ret
  exact ⟨rfl, b1⟩
end Go.Proofs.YtechaplindbfoaaGreatDoor.jsn
