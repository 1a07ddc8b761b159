/-
  The law of the limits: for any two numbers of 32 bits.
-/
import Derived.Test.YthlaejodajdioaaWLimits
set_option linter.unusedVariables false
namespace Go.Proofs.Ythlaejodajdioaa
open Go Go.RowKit Go.Deep
theorem In32.of {n : Int} (h : (Lit.int .u32 n).wf = true) : 0 ≤ n ∧ n < 4294967296 := by
  simp [Lit.wf, IntKind.min, IntKind.max, IntKind.bits, IntKind.signed] at h
  omega
theorem fractionLimits_walk (n m : Int) (w : World) (h0 : (Lit.int .u32 n).wf = true) (h1 : (Lit.int .u32 m).wf = true) :
    Calls Try.prog 6 #[.int .u32 n, .int .u32 m] w fun e w' => e = .returned (.bool true) ∧ Below w.heap.size w w' :=
  (limits_core n m _ _ w (In32.of h0) (In32.of h1) rfl rfl).mono fun _ _ ⟨he, hc⟩ => ⟨he, hc.below⟩
end Go.Proofs.Ythlaejodajdioaa
