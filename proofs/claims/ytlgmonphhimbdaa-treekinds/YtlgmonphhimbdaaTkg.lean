import Derived.Test.YtlgmonphhimbdaaTkc
import Derived.Test.YtlgmonphhimbdaaBase
namespace Go.Proofs.Ytlgmonphhimbdaa.knd
set_option linter.unusedVariables false
theorem us_of {w : World} {a : Option Addr} {n c : Nat} {zs : List Int} (h : mem.Row .u16 w a n c zs) (hf : ∀ z ∈ zs, (Lit.int .u16 z).wf = true) : Us w a n := by
  rcases h.at_ with h0 | ⟨b, off, ha, hb, hc⟩
  · exact .inl h0
  · refine .inr ⟨b, off, ha, hb, fun i hi => ?_⟩
    have hl : i < zs.length := by rw [h.len]; exact hi
    have e : zs.getD i 0 = zs[i] := by simp [List.getD, hl]
    have hw := hf zs[i] (List.getElem_mem hl)
    simp [Lit.wf, IntKind.min, IntKind.max, IntKind.signed, IntKind.bits] at hw
    refine ⟨zs[i].toNat, by omega, ?_⟩
    rw [hc i hi, e]
    congr 2
    omega
end Go.Proofs.Ytlgmonphhimbdaa.knd
