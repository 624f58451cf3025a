import Derived.Test.YtjlafneklcfgoabVlG
namespace Go.Proofs.Ytjlafneklcfgoab.vl
open Go.ChangeShapes Go.WideShapes Go.ChangeAt Go.RowKit
set_option linter.unusedVariables false
mutual
/-- what holds of a value when it holds of its items and its members' values holds of every value -/
theorem Vl.all {P : Vl → Prop} (step : ∀ kd b n f tx ty its fls, (∀ v ∈ Vls.list its, P v) → (∀ q ∈ Fls.list fls, P q.2) → P (.mk kd b n f tx ty its fls)) : ∀ v, P v
  | .mk kd b n f tx ty its fls => step kd b n f tx ty its fls (Vls.all step its) (Fls.all step fls)
theorem Vls.all {P : Vl → Prop} (step : ∀ kd b n f tx ty its fls, (∀ v ∈ Vls.list its, P v) → (∀ q ∈ Fls.list fls, P q.2) → P (.mk kd b n f tx ty its fls)) : ∀ l : Vls, ∀ v ∈ l.list, P v
  | .nil, v, h => by simp [Vls.list] at h
  | .cons u r, v, h => by
    simp only [Vls.list, List.mem_cons] at h
    rcases h with h | h
    · rw [h]; exact Vl.all step u
    · exact Vls.all step r v h
theorem Fls.all {P : Vl → Prop} (step : ∀ kd b n f tx ty its fls, (∀ v ∈ Vls.list its, P v) → (∀ q ∈ Fls.list fls, P q.2) → P (.mk kd b n f tx ty its fls)) : ∀ l : Fls, ∀ q ∈ l.list, P q.2
  | .nil, q, h => by simp [Fls.list] at h
  | .cons nm u r, q, h => by
    simp only [Fls.list, List.mem_cons] at h
    rcases h with h | h
    · rw [h]; exact Vl.all step u
    · exact Fls.all step r q h
end
end Go.Proofs.Ytjlafneklcfgoab.vl
