/-
  The walk of the law ValueDuals: it returns true for every three values.
-/
import Derived.Test.YtgmpdngolpkjjaaWDualsA
import Derived.Test.YtgmpdngolpkjjaaWDualsB
import Derived.Test.YtgmpdngolpkjjaaWDualsC
set_option linter.unusedVariables false
namespace Go.Proofs.Ytgmpdngolpkjjaa
open Go Go.RowKit
theorem valueDuals_walk (k n : Int) (s : ByteArray) (k' n' : Int) (s' : ByteArray) (k2 n2 : Int) (s2 : ByteArray) (w : World) (hk : (Lit.int .i64 k).wf = true) (hn : (Lit.int .i64 n).wf = true) (hs : s.size ≤ maxLen) (hk' : (Lit.int .i64 k').wf = true) (hn' : (Lit.int .i64 n').wf = true) (hs' : s'.size ≤ maxLen) (hk2 : (Lit.int .i64 k2).wf = true) (hn2 : (Lit.int .i64 n2).wf = true) (hs2 : s2.size ≤ maxLen) :
    Calls Try.prog 6 #[.agg #[.int .i64 k, .int .i64 n, .string s], .agg #[.int .i64 k', .int .i64 n', .string s'], .agg #[.int .i64 k2, .int .i64 n2, .string s2]] w fun e w' => e = .returned (.bool true) ∧ Below w.heap.size w w' := by
  rcases truT_cases k n with h | h | h
  · exact valueDuals_0 k n s k' n' s' k2 n2 s2 w h
  · exact valueDuals_1 k n s k' n' s' k2 n2 s2 w h
  · exact valueDuals_2 k n s k' n' s' k2 n2 s2 w h
end Go.Proofs.Ytgmpdngolpkjjaa
